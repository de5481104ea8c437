/-
  TieAgrees: the program's answer and the document's are one.
-/
import Derived.Test.YtcedcfagfklohaaTieN
import Derived.Test.YtcedcfagfklohaaTieR
import Derived.Test.YtcedcfagfklohaaKPr
import Derived.Test.YtcedcfagfklohaaKhHdHeader
import Derived.Test.YtcedcfagfklohaaHdStepX
import Derived.Deep.CutRange
set_option linter.unusedVariables false
set_option linter.unusedSimpArgs false
namespace Go.Proofs.Ytcedcfagfklohaa
open Go.RowKit Go.Lib
open Px (R2 tl below_drew')
attribute [local go_sem ↓] add_plain

theorem wp_appRs {W : World} {o : Oper} {a : Act} {K : Act → World → Prop} {Q : Exit → Act → World → Prop} (s x : Operand)
    (ho : o.op = .call { callee := .builtin .append, args := #[s, x], argTypes := #[25, 25] })
    (base : Nat) (v : Value) (l m : List R2) (hs : a.eval s = v) (hown : Px.OwnR W base v l) (hbase : base ≤ W.heap.size)
    (A : Option Addr) (c : Nat) (n : Nat) (hn : n = m.length) (hx : a.eval x = .slice A n c) (B : Nat) (hr : Px.RdR W B A m) (hl : l.length + m.length ≤ 100000000)
    (h : ∀ v' w' l', Hid (l' = l ++ m) → l'.length = l.length + m.length → Px.OwnR w' base v' l' → Below base W w' → W.grownBy w' v.ownBlock → K (a.put o.dst v') w') : o.wp Try.prog a W K Q := by
  subst hn
  obtain ⟨i0, hi, hz0, hz1, hz2⟩ := info_parts Px.infoR
  refine Px.wp_append_any W s x 25 ho base 24 i0 _ 2 32 Try.underlying25 hi hz0 hz1 hz2 rfl (by decide) v l.length (Px.cellsR l) hs hown B A m.length c (Px.cellsR m) hx hr.reads ?_ (by unfold maxLen; omega) (by omega) hbase ?_
  · intro u hu
    unfold Px.cellsR Px.recCells at hu
    rw [List.mem_flatMap] at hu
    obtain ⟨r, _, hu⟩ := hu
    simp at hu
    rcases hu with rfl | rfl <;> rfl
  · intro v' w' hown' hg hat
    refine h v' w' _ (Lib.hid rfl) (by simp) (Px.OwnR.app hown') ?_ hg
    exact (Below.refl _ W).grown hg hbase (fun g hg' => Px.ownsRow_block hown g hg')
theorem quiet_row {P : Program} {o : Oper} {a : Act} {w : World} {C : World → Prop} (ty : TypeId) (x : Operand) (ho : o.op = .load ty x)
    (g : Nat) (hx : a.eval x = .pointer (some ⟨g, 0, none⟩)) (t : TypeId) (cs : Array Value) (fr : Nat × Nat) (d : TypeDesc) (hg : w.heap[g]? = some (.cells cs t fr))
    (hu : P.underlying ty = some d) (hd : (match d with | .struct _ | .array _ _ => true | _ => false) = true) (hi : (P.info? ty).map (·.size) = some cs.size) : o.quietAt P a C w (.agg cs) := by
  have h : (execOp a.eval o).run P w = .ok (.value (.agg cs)) w := by
    unfold execOp
    simp only [ho, hx, Instr.loadAt, Instr.sureAddr, Sem.run_bind, Sem.run_pure, Result.andThen_ok, run_loadVar_row w g t ty cs fr d hg hu hd hi]
  unfold Oper.quietAt
  rw [h]
  exact ⟨rfl, rfl⟩
theorem rd_two (w : World) (s t u v : ByteArray) : Px.RdR (w.alloc (.cells #[.string s, .string t, .string u, .string v] 24)) (w.heap.size + 1) (some ⟨w.heap.size, 0, none⟩) [(s, t), (u, v)] := fun _ => by
  have hn := World.alloc_heap_new w (.cells #[.string s, .string t, .string u, .string v] 24)
  refine ⟨w.heap.size, 0, rfl, Nat.lt_succ_self _, fun k r hr => ?_⟩
  match k, hr with
  | 0, hr =>
    simp at hr
    subst hr
    constructor <;> (unfold World.cell?; rw [hn]; rfl)
  | 1, hr =>
    simp at hr
    subst hr
    constructor <;> (unfold World.cell?; rw [hn]; rfl)
theorem fits_short {rs : List R2} (h : Px.Good rs) : Px.Fits rs := fun r hr => by
  have := (h r hr).2.1
  unfold maxLen
  exact ⟨by omega, by omega⟩

set_option maxRecDepth 100000 in
set_option maxHeartbeats 4000000 in
theorem tieAgrees_any (h0 : Hd.M.Hdr) (Ap : Option Addr) (np cp : Nat) (A1 : Option Addr) (c1 : Nat) (l : List R2) (A2 : Option Addr) (n2 c2 : Nat) (z2 : List Int) (A3 : Option Addr) (n3 c3 : Nat) (z3 : List Int) (k : Int) (w : World)
    (hr1 : Px.RdR w w.heap.size A1 l) (hl1 : l.length ≤ maxLen) (f1 : Px.Fits l) (hr2 : Hd.Rd w w.heap.size A2 n2 z2) (hc2 : n2 ≤ c2) (hcm2 : c2 ≤ maxLen) (hr3 : Px.Rd w w.heap.size A3 n3 z3) (hn3 : n3 ≤ maxLen) (hk : 0 ≤ k ∧ k ≤ 255) (hsn : h0.name.size ≤ maxLen) :
    Calls Try.prog 4 #[.agg (Hd.hcells h0 (.slice Ap np cp)), .slice A1 l.length c1, .slice A2 n2 c2, .slice A3 n3 c3, .int .u8 k] w fun e w' => e = .returned (.bool true) ∧ Below w.heap.size w w' := by
  unfold maxLen at hl1 hsn
  have H1 := hid (Hd.HB.new w h0 (.slice Ap np cp))
  have hb1 : Below w.heap.size w (w.alloc (.cells (Hd.hcells h0 (.slice Ap np cp)) 28)) := (Below.refl _ w).alloc (Nat.le_refl _) _
  have HW := hid hb1
  have HS := hid (World.size_alloc w (.cells (Hd.hcells h0 (.slice Ap np cp)) 28))
  have HR1 := hid (fun V (hV : Below w.heap.size w V) => (hr1.below hV).more hV.size)
  have HR2 := hid (fun V (hV : Below w.heap.size w V) => (hr2.below hV).more hV.size)
  have HR3 := hid (fun V (hV : Below w.heap.size w V) => (hr3.below hV).more hV.size)
  clear hb1 hr1 hr2 hr3
  go_enter Try.func4, Try.ntmps4
  go_upto_region 1 with fail
  generalize World.alloc w _ = W at *
  have k0 := H1.out.cell (i := 0) (v := .string h0.name) rfl
  have hsz : w.heap.size < W.heap.size := by rw [HS.out]; omega
  by_cases hl : l.length ≤ 30
  · by_cases hn : h0.name.size ≤ 500
    · have hl' : ¬ 30 < l.length := by omega
      have hn' : ¬ 500 < h0.name.size := by omega
      go_wp2_with fail
      refine (known_any W).mono ?_
      rintro e w1 ⟨rfl, hb1⟩
      have HW1 := hid (HW.out.trans (hb1.mono HW.out.size))
      have H2 := hid (H1.out.below hb1 hsz)
      have hs1 : w.heap.size < w1.heap.size := Nat.lt_of_lt_of_le hsz hb1.size
      clear hb1 HW H1 k0 hsz HS hl' hn'
      go_wp2_with fail
      refine (Hd.header_any A2 n2 c2 z2 w1 (HR2.out w1 HW1.out) hc2 hcm2).mono ?_
      rintro e w2 ⟨gh, pv, rfl, hin, hfew, hway, hb2⟩
      obtain ⟨Ag, cg, rfl, hpg⟩ := hin.parts
      obtain ⟨ng, hng⟩ : ∃ n, gh.parts.length = n := ⟨_, rfl⟩
      rw [hng]
      have htx := hin.texts
      have HW2 := hid (HW1.out.trans (hb2.mono (Nat.le_of_lt hs1)))
      have H3 := hid (H2.out.below hb2 hs1)
      have hs2 : w.heap.size < w2.heap.size := Nat.lt_of_lt_of_le hs1 hb2.size
      clear hb2 HW1 H2 hs1 hin hpg hfew hway HR2 hng
      go_upto_region 4 with (refine wpList_store_row rfl 28 (.tmp 11) (.tmp 28) rfl w2.heap.size (Hd.hcells gh (.slice Ag ng cg)) (by simp [Act.eval]) (by simp [Act.eval]) 28 (Hd.hcells {} (.slice none 0 0)) (heap_alloc_new w2 _) Hd.hdr_size rfl (Hd.hcells_one _ rfl) ?_; rw [World.setRow_alloc_new])
      have HW3 := hid (HW2.out.alloc HW2.out.size (.cells (Hd.hcells gh (.slice Ag ng cg)) 28))
      have G3 := hid (Hd.HB.new w2 gh (.slice Ag ng cg))
      have H4 := hid (H3.out.alloc (.cells (Hd.hcells gh (.slice Ag ng cg)) 28))
      have hs3 : w2.heap.size < (w2.alloc (.cells (Hd.hcells gh (.slice Ag ng cg)) 28)).heap.size := by rw [World.size_alloc]; omega
      clear HW2 H3
      generalize World.alloc w2 _ = w3 at *
      obtain ⟨g, hgg⟩ : ∃ g, g = w2.heap.size := ⟨_, rfl⟩
      rw [← hgg] at G3 hs2 hs3 ⊢
      clear hgg
      go_wp2_with fail
      refine (Px.recs_any A3 n3 c3 z3 4 (by decide) hn3 w3 (HR3.out w3 HW3.out)).mono ?_
      rintro e w4 ⟨Ar, cr, rs, rfl, hrr, hrc, hcm, hr4, hgood, hb4, hown⟩
      have HO := hid hown
      have HRR := hid hrr
      have HF := hid (fits_short hgood)
      have B4 := hid hb4
      clear HR3 hown hrr hgood hcm hb4
      have e2 : k.tmod 2 = k % 2 := Int.tmod_eq_emod_of_nonneg hk.1
      have ed : k.tdiv 2 = k / 2 := Int.tdiv_eq_ediv_of_nonneg hk.1
      have em : (k / 2).tmod 2 = (k / 2) % 2 := Int.tmod_eq_emod_of_nonneg (by omega)
      go_upto_if 33 with fail
      generalize (k % 2 == 0) = b at *
      go_cut [12] from 34 to 48 (fun v wx => ∃ A c rs', v = .slice A rs'.length c ∧ Hid (Px.RdR wx wx.heap.size A rs') ∧ Hid (Px.Fits rs') ∧ rs'.length ≤ 10 ∧ Hid (Below w3.heap.size w3 wx))
      case first =>
        cases b with
        | false =>
          go_wp2_with fail
          go_meet
          case rel => exact ⟨Ar, cr, rs, rfl, HRR, HF, by omega, B4⟩
        | true =>
          have Z0 := hid (fun (V : World) (hV : Below w3.heap.size w3 V) => (G3.out.below hV hs3).cell (i := 0) (v := .string gh.name) rfl)
          have Z7 := hid (fun (V : World) (hV : Below w3.heap.size w3 V) => (G3.out.below hV hs3).cell (i := 7) (v := .string gh.link) rfl)
          obtain ⟨sx, hsx⟩ : ∃ sx : ByteArray, (⟨#[120]⟩ : ByteArray).extract 0 ((k / 2) % 2).toNat = sx := ⟨_, rfl⟩
          have hxs : sx.size ≤ 1 := by rw [← hsx, ByteArray.size_extract]; show min _ 1 - 0 ≤ 1; omega
          have hif : 0 ≤ (k / 2) % 2 ∧ (k / 2) % 2 ≤ 1 := by omega
          have ew : IntKind.u8.wrap (k / 2) = k / 2 := by rw [IntKind.wrap_u8]; omega
          have hns : ¬ 9223372036854775807 < gh.name.size + sx.size := by have := htx.1; omega
          go_upto_region 6 with fail
          refine wp_region_held_drew (S := fun V => Below w3.heap.size w3 V) (by kernel_rfl) (below_drew' B4.out) (fun hS => ?_)
          refine takeH (i := 0) (v := ?_) 34 rfl rfl (by kernel_rfl) (by kernel_rfl) (by kernel_rfl) (fun _ _ _ h => h) (by rfl) ?hy0 hS ?rest0
          case hy0 => (intro W hW; clear hW; go_simp; first | done | with_reducible rfl)
          try simp only [Act.put, List.setIfInBounds_toArray, List.set_cons_zero, List.set_cons_succ]
          refine takeH (i := 1) (v := ?_) 35 rfl rfl (by kernel_rfl) (by kernel_rfl) (by kernel_rfl) (fun _ _ _ h => h) (by rfl) ?hy1 hS ?rest1
          case hy1 => (intro W hW; clear hW; go_simp; first | done | with_reducible rfl)
          try simp only [Act.put, List.setIfInBounds_toArray, List.set_cons_zero, List.set_cons_succ]
          refine takeH (i := 2) (v := ?_) 36 rfl rfl (by kernel_rfl) (by kernel_rfl) (by kernel_rfl) (fun _ _ _ h => h) (by rfl) ?hy2 hS ?rest2
          case hy2 => (intro W hW; have f0 := Z0.out W hW; clear hW; go_simp; first | done | with_reducible rfl)
          try simp only [Act.put, List.setIfInBounds_toArray, List.set_cons_zero, List.set_cons_succ]
          refine takeH (i := 3) (v := ?_) 37 rfl rfl (by kernel_rfl) (by kernel_rfl) (by kernel_rfl) (fun _ _ _ h => h) (by rfl) ?hy3 hS ?rest3
          case hy3 => (intro W hW; clear hW; go_simp; first | done | with_reducible rfl)
          try simp only [Act.put, List.setIfInBounds_toArray, List.set_cons_zero, List.set_cons_succ]
          refine takeH (i := 4) (v := ?_) 38 rfl rfl (by kernel_rfl) (by kernel_rfl) (by kernel_rfl) (fun _ _ _ h => h) (by rfl) ?hy4 hS ?rest4
          case hy4 => (intro W hW; clear hW; go_simp; first | done | with_reducible rfl)
          try simp only [Act.put, List.setIfInBounds_toArray, List.set_cons_zero, List.set_cons_succ]
          refine takeH (i := 5) (v := ?_) 39 rfl rfl (by kernel_rfl) (by kernel_rfl) (by kernel_rfl) (fun _ _ _ h => h) (by rfl) ?hy5 hS ?rest5
          case hy5 => (intro W hW; clear hW; go_simp; first | done | with_reducible rfl)
          try simp only [Act.put, List.setIfInBounds_toArray, List.set_cons_zero, List.set_cons_succ]
          refine takeH (i := 6) (v := ?_) 40 rfl rfl (by kernel_rfl) (by kernel_rfl) (by kernel_rfl) (fun _ _ _ h => h) (by rfl) ?hy6 hS ?rest6
          case hy6 => (intro W hW; clear hW; go_simp; first | done | with_reducible rfl)
          try simp only [Act.put, List.setIfInBounds_toArray, List.set_cons_zero, List.set_cons_succ]
          refine takeH (i := 7) (v := ?_) 41 rfl rfl (by kernel_rfl) (by kernel_rfl) (by kernel_rfl) (fun _ _ _ h => h) (by rfl) ?hy7 hS ?rest7
          case hy7 => (intro W hW; clear hW; go_simp; first | done | with_reducible rfl)
          try simp only [Act.put, List.setIfInBounds_toArray, List.set_cons_zero, List.set_cons_succ]
          refine takeH (i := 8) (v := ?_) 42 rfl rfl (by kernel_rfl) (by kernel_rfl) (by kernel_rfl) (fun _ _ _ h => h) (by rfl) ?hy8 hS ?rest8
          case hy8 => (intro W hW; clear hW; go_simp; first | done | with_reducible rfl)
          try simp only [Act.put, List.setIfInBounds_toArray, List.set_cons_zero, List.set_cons_succ]
          refine takeH (i := 9) (v := ?_) 43 rfl rfl (by kernel_rfl) (by kernel_rfl) (by kernel_rfl) (fun _ _ _ h => h) (by rfl) ?hy9 hS ?rest9
          case hy9 => (intro W hW; clear hW; go_simp; first | done | with_reducible rfl)
          try simp only [Act.put, List.setIfInBounds_toArray, List.set_cons_zero, List.set_cons_succ]
          refine takeH (i := 10) (v := ?_) 44 rfl rfl (by kernel_rfl) (by kernel_rfl) (by kernel_rfl) (fun _ _ _ h => h) (by rfl) ?hy10 hS ?rest10
          case hy10 => (intro W hW; have f0 := Z7.out W hW; clear hW; go_simp; first | done | with_reducible rfl)
          try simp only [Act.put, List.setIfInBounds_toArray, List.set_cons_zero, List.set_cons_succ]
          refine takeH (i := 11) (v := ?_) 45 rfl rfl (by kernel_rfl) (by kernel_rfl) (by kernel_rfl) (fun _ _ _ h => h) (by rfl) ?hy11 hS ?rest11
          case hy11 => (intro W hW; clear hW; go_simp; first | done | with_reducible rfl)
          try simp only [Act.put, List.setIfInBounds_toArray, List.set_cons_zero, List.set_cons_succ]
          refine loneH (i := 12) 46 rfl rfl (by kernel_rfl) (by rfl) (fun K hK => ?_)
          go_simp
          refine hK.out _ _ (hS.alloc hS.size _) (fun hS => ?_)
          clear hK K
          try simp only [Act.put, List.setIfInBounds_toArray, List.set_cons_zero, List.set_cons_succ]
          refine loneH (i := 13) 47 rfl rfl (by kernel_rfl) (by rfl) (fun K hK => ?_)
          refine wp_appRs (.tmp 34) (.tmp 46) rfl w3.heap.size _ rs [(⟨#[112, 97, 116, 104]⟩, gh.name ++ sx), (⟨#[108, 105, 110, 107, 112, 97, 116, 104]⟩, gh.link)] (by simp [Act.eval]) (Px.OwnR.alloc (show Px.OwnR w4.drew w3.heap.size (.slice Ar rs.length cr) rs from HO.out) _) hS.size (some ⟨w4.drew.heap.size, 0, none⟩) 2 2 rfl (by simp [Act.eval]) _ (rd_two w4.drew _ _ _ _) (by simp; omega) ?_
          intro v1 w5 l1 hl1 hn1 o1 b1 g1
          refine hK.out _ _ (hS.trans b1) (fun hS => ?_)
          clear hK K
          try simp only [Act.put, List.setIfInBounds_toArray, List.set_cons_zero, List.set_cons_succ]
          refine takeH (i := 14) (v := ?_) 12 rfl rfl (by kernel_rfl) (by kernel_rfl) (by kernel_rfl) (fun _ _ _ h => h) (by rfl) ?hy14 hS ?rest14
          case hy14 => (intro W hW; clear hW; go_simp; first | done | with_reducible rfl)
          try simp only [Act.put, List.setIfInBounds_toArray, List.set_cons_zero, List.set_cons_succ]
          refine wpAnyH_done (by kernel_rfl) ?_ _
          try simp only [Act.put, List.setIfInBounds_toArray, List.set_cons_zero, List.set_cons_succ]
          go_wp2_with fail
          go_meet
          case rel =>
            obtain ⟨A9, c9, hv9, hr9, hc9, hm9⟩ := o1.rd
            refine ⟨A9, c9, l1, hv9, hid hr9, hid ?_, by rw [hn1]; simp; omega, hid (((below_drew' B4.out).alloc B4.out.size _).trans b1)⟩
            · rw [hl1.out]
              intro r hr
              rcases List.mem_append.1 hr with hr | hr
              · exact HF.out r hr
              · simp at hr
                have h1 := htx.1
                have h2 := htx.2.1
                unfold maxLen
                rcases hr with rfl | rfl
                · refine ⟨by show (4 : Nat) ≤ _; decide, ?_⟩
                  show (gh.name ++ sx).size ≤ _
                  rw [ByteArray.size_append]; omega
                · refine ⟨by show (8 : Nat) ≤ _; decide, ?_⟩
                  show gh.link.size ≤ _
                  omega
      case rest =>
        obtain ⟨A, c, rs', rfl, HRR', HF', hn10, HB'⟩ := hcut
        clear HRR HF HO B4 e2 ed em
        have HD0 := hid (fun (V : World) (hV : Below wc.heap.size wc V) => H4.out.below (HB'.out.trans (hV.mono HB'.out.size)) (by omega))
        have HD1 := hid (fun (V : World) (hV : Below wc.heap.size wc V) => G3.out.below (HB'.out.trans (hV.mono HB'.out.size)) hs3)
        have HN := hid (fun (V : World) (hV : Below wc.heap.size wc V) => HW3.out.trans ((HB'.out.trans (hV.mono HB'.out.size)).mono HW3.out.size))
        obtain ⟨q1, hq1⟩ : ∃ q, M.agr (tl h0.pre) (tl h0.name) (tl h0.link) (Px.rcs l) = q := ⟨_, rfl⟩
        obtain ⟨q2, hq2⟩ : ∃ q, M.agr (tl gh.pre) (tl gh.name) (tl gh.link) (Px.rcs rs') = q := ⟨_, rfl⟩
        have K1 := hid (fun (V : World) (hV : Below wc.heap.size wc V) => agrees_any h0 Ap np cp A1 c1 l V (HR1.out V (HN.out V hV)) (by omega) f1)
        have K2 := hid (fun (V : World) (hV : Below wc.heap.size wc V) => refAgrees_any h0 Ap np cp A1 c1 l V (HR1.out V (HN.out V hV)) (by omega))
        have K3 := hid (fun (V : World) (hV : Below wc.heap.size wc V) => agrees_any gh Ag ng cg A c rs' V ((HRR'.out.below hV).more hV.size) (by omega) HF'.out)
        have K4 := hid (fun (V : World) (hV : Below wc.heap.size wc V) => refAgrees_any gh Ag ng cg A c rs' V ((HRR'.out.below hV).more hV.size) (by omega))
        rw [hq1] at K1 K2
        rw [hq2] at K3 K4
        clear hq1 hq2 HR1 H4 G3 HRR' HF'
        go_upto_region 7 with fail
        obtain ⟨v54z, hv54z⟩ : ∃ g : Bool, g = (true) := ⟨_, rfl⟩
        have V54z := hid hv54z
        clear hv54z
        obtain ⟨v62z, hv62z⟩ : ∃ g : Bool, g = (true) := ⟨_, rfl⟩
        have V62z := hid hv62z
        clear hv62z
        obtain ⟨v63z, hv63z⟩ : ∃ g : Bool, g = (v54z && v62z) := ⟨_, rfl⟩
        have V63z := hid hv63z
        clear hv63z
        have HV := hid (show v63z = true by rw [V63z.out, V62z.out, V54z.out]; rfl)
        refine wp_region_class (fun V => Below wc.heap.size wc V) (by kernel_rfl) (by kernel_rfl) (below_drew' (Below.refl _ _)) ?_
        refine quiet_yes 48 (v := .agg (Hd.hcells h0 (.slice Ap np cp))) rfl (by kernel_rfl) ?hy48z ?rest48z
        case hy48z => (intro W hW; have hr0 := HD0.out W hW; clear hW; exact quiet_row 28 (.tmp 5) rfl w.heap.size (by rfl) 28 _ (0, 0) _ hr0 Try.underlying28 rfl Hd.hdr_size)
        try simp only [Act.put, List.setIfInBounds_toArray, List.set_cons_zero, List.set_cons_succ]
        refine quiet_yes 49 (v := ?_) rfl (by kernel_rfl) ?hy49z ?rest49z
        case hy49z => (intro W hW; clear hW; go_simp; first | done | with_reducible rfl)
        try simp only [Act.put, List.setIfInBounds_toArray, List.set_cons_zero, List.set_cons_succ]
        refine quiet_yes 50 (v := .bool q1) rfl (by kernel_rfl) ?hy50z ?rest50z
        case hy50z => (intro W hW; (go_simp; go_at_call 6; (with_reducible refine (K1.out W hW).mono ?_); rintro e w' ⟨rfl, hb⟩; exact ⟨rfl, hW.trans (hb.mono hW.size)⟩))
        try simp only [Act.put, List.setIfInBounds_toArray, List.set_cons_zero, List.set_cons_succ]
        refine quiet_yes 51 (v := .agg (Hd.hcells h0 (.slice Ap np cp))) rfl (by kernel_rfl) ?hy51z ?rest51z
        case hy51z => (intro W hW; have hr0 := HD0.out W hW; clear hW; exact quiet_row 28 (.tmp 5) rfl w.heap.size (by rfl) 28 _ (0, 0) _ hr0 Try.underlying28 rfl Hd.hdr_size)
        try simp only [Act.put, List.setIfInBounds_toArray, List.set_cons_zero, List.set_cons_succ]
        refine quiet_yes 52 (v := ?_) rfl (by kernel_rfl) ?hy52z ?rest52z
        case hy52z => (intro W hW; clear hW; go_simp; first | done | with_reducible rfl)
        try simp only [Act.put, List.setIfInBounds_toArray, List.set_cons_zero, List.set_cons_succ]
        refine quiet_yes 53 (v := .bool q1) rfl (by kernel_rfl) ?hy53z ?rest53z
        case hy53z => (intro W hW; (go_simp; go_at_call 9; (with_reducible refine (K2.out W hW).mono ?_); rintro e w' ⟨rfl, hb⟩; exact ⟨rfl, hW.trans (hb.mono hW.size)⟩))
        try simp only [Act.put, List.setIfInBounds_toArray, List.set_cons_zero, List.set_cons_succ]
        refine quiet_yes 54 (v := .bool v54z) rfl (by kernel_rfl) ?hy54z ?rest54z
        case hy54z => (intro W hW; clear hW; rw [V54z.out]; cases q1 <;> (go_simp; first | done | with_reducible rfl))
        try simp only [Act.put, List.setIfInBounds_toArray, List.set_cons_zero, List.set_cons_succ]
        refine quiet_yes 55 (v := ?_) rfl (by kernel_rfl) ?hy55z ?rest55z
        case hy55z => (intro W hW; clear hW; go_simp; first | done | with_reducible rfl)
        try simp only [Act.put, List.setIfInBounds_toArray, List.set_cons_zero, List.set_cons_succ]
        refine quiet_if 56 v54z (v := .agg (Hd.hcells gh (.slice Ag ng cg))) rfl (by cases v54z <;> kernel_rfl) ?hy56z ?rest56z
        case hy56z => (intro hg W hW; obtain rfl : v54z = true := (by exact hg); have hr0 := HD1.out W hW; clear hW; (try simp only [cond_true]); exact quiet_row 28 (.tmp 11) rfl g (by rfl) 28 _ (0, 0) _ hr0 Try.underlying28 rfl Hd.hdr_size)
        try simp only [Act.put, List.setIfInBounds_toArray, List.set_cons_zero, List.set_cons_succ]
        refine quiet_if 57 v54z (v := ?_) rfl (by cases v54z <;> kernel_rfl) ?hy57z ?rest57z
        case hy57z => (intro hg W hW; obtain rfl : v54z = true := (by exact hg); clear hW; (try simp only [cond_true]); go_simp; first | done | with_reducible rfl)
        try simp only [Act.put, List.setIfInBounds_toArray, List.set_cons_zero, List.set_cons_succ]
        refine quiet_if 58 v54z (v := .bool q2) rfl (by cases v54z <;> kernel_rfl) ?hy58z ?rest58z
        case hy58z => (intro hg W hW; obtain rfl : v54z = true := (by exact hg); (try simp only [cond_true]); (go_simp; go_at_call 6; (with_reducible refine (K3.out W hW).mono ?_); rintro e w' ⟨rfl, hb⟩; exact ⟨rfl, hW.trans (hb.mono hW.size)⟩))
        try simp only [Act.put, List.setIfInBounds_toArray, List.set_cons_zero, List.set_cons_succ]
        refine quiet_if 59 v54z (v := .agg (Hd.hcells gh (.slice Ag ng cg))) rfl (by cases v54z <;> kernel_rfl) ?hy59z ?rest59z
        case hy59z => (intro hg W hW; obtain rfl : v54z = true := (by exact hg); have hr0 := HD1.out W hW; clear hW; (try simp only [cond_true]); exact quiet_row 28 (.tmp 11) rfl g (by rfl) 28 _ (0, 0) _ hr0 Try.underlying28 rfl Hd.hdr_size)
        try simp only [Act.put, List.setIfInBounds_toArray, List.set_cons_zero, List.set_cons_succ]
        refine quiet_if 60 v54z (v := ?_) rfl (by cases v54z <;> kernel_rfl) ?hy60z ?rest60z
        case hy60z => (intro hg W hW; obtain rfl : v54z = true := (by exact hg); clear hW; (try simp only [cond_true]); go_simp; first | done | with_reducible rfl)
        try simp only [Act.put, List.setIfInBounds_toArray, List.set_cons_zero, List.set_cons_succ]
        refine quiet_if 61 v54z (v := .bool q2) rfl (by cases v54z <;> kernel_rfl) ?hy61z ?rest61z
        case hy61z => (intro hg W hW; obtain rfl : v54z = true := (by exact hg); (try simp only [cond_true]); (go_simp; go_at_call 9; (with_reducible refine (K4.out W hW).mono ?_); rintro e w' ⟨rfl, hb⟩; exact ⟨rfl, hW.trans (hb.mono hW.size)⟩))
        try simp only [Act.put, List.setIfInBounds_toArray, List.set_cons_zero, List.set_cons_succ]
        refine quiet_if 62 v54z (v := .bool v62z) rfl (by cases v54z <;> kernel_rfl) ?hy62z ?rest62z
        case hy62z => (intro hg W hW; obtain rfl : v54z = true := (by exact hg); clear hW; (try simp only [cond_true]); rw [V62z.out]; cases q2 <;> (go_simp; first | done | with_reducible rfl))
        try simp only [Act.put, List.setIfInBounds_toArray, List.set_cons_zero, List.set_cons_succ]
        refine quiet_yes 63 (v := .bool v63z) rfl (by kernel_rfl) ?hy63z ?rest63z
        case hy63z => (intro W hW; clear hW; rw [V63z.out]; cases v54z <;> (go_simp; first | done | with_reducible rfl))
        try simp only [Act.put, List.setIfInBounds_toArray, List.set_cons_zero, List.set_cons_succ]
        refine quiet_yes 10 (v := ?_) rfl (by kernel_rfl) ?hy10z ?rest10z
        case hy10z => (intro W hW; clear hW; go_simp; first | done | with_reducible rfl)
        try simp only [Act.put, List.setIfInBounds_toArray, List.set_cons_zero, List.set_cons_succ]
        refine wpQuiet_nil ?_
        intro w5 hb5
        have HE := hid (HN.out w5 hb5)
        clear hb5 HN K1 K2 K3 K4 HD0 HD1
        go_wp2_with fail
        go_ret
        exact ⟨ret_boolT' HV.out, HE.out⟩
    · have hl' : ¬ 30 < l.length := by omega
      have hn' : 500 < h0.name.size := by omega
      go_wp2_with fail
      refine (known_any W).mono ?_
      rintro e w1 ⟨rfl, hb1⟩
      have HW1 := hid (HW.out.trans (hb1.mono HW.out.size))
      go_wp2_with fail
      go_ret
      exact ⟨rfl, HW1.out⟩
  · have hl' : 30 < l.length := by omega
    go_wp2_with fail
    refine (known_any W).mono ?_
    rintro e w1 ⟨rfl, hb1⟩
    have HW1 := hid (HW.out.trans (hb1.mono HW.out.size))
    go_wp2_with fail
    go_ret
    exact ⟨rfl, HW1.out⟩
end Go.Proofs.Ytcedcfagfklohaa
