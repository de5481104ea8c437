// Package ways tests how the layers are built: what each stands on, and the language's ways that it leans on.
package ways

import (
	"go/ast"
	"go/build"
	"go/importer"
	"go/parser"
	"go/token"
	"go/types"
	"os/exec"
	"path/filepath"
	"slices"
	"strings"
	"testing"
)

const module = "mudlark/"

// layers are those built so far, as the document's map and its section Ways have them.
var layers = []struct {
	name  string
	calls []string
	ways  []string
}{
	{"num", []string{"api"}, []string{"range-integer"}},
	{"str", []string{"api"}, []string{"range-string", "range-function"}},
	{"pax", []string{"api"}, []string{"map", "label"}},
	{"stamp", []string{"api"}, []string{"range-string", "struct-compared"}},
	{"sum", []string{"api", "num"}, []string{"closure", "array", "array-compared"}},
	{"medium", []string{"api"}, []string{"range-function", "variadic"}},
	{"sink", []string{"api"}, []string{"clone", "three-index"}},
	{"head", []string{"api", "num", "str", "sum"}, []string{"array", "pointer", "table", "panic", "defer", "recover", "assertion"}},
	{"sparse", []string{"api", "head"}, []string{"label", "range-function"}},
	{"meta", []string{"api", "num", "str", "pax", "stamp", "sparse"}, []string{"closure", "pointer", "array"}},
	{"group", []string{"api", "str", "pax", "medium", "head", "sparse", "meta"}, []string{"map", "method-value", "errors-as"}},
	{"strict", []string{"api", "sum", "medium", "group"}, []string{"range-function", "label"}},
	{"write", []string{"api", "pax", "head", "meta"}, []string{"embedding", "promoted"}},
	{"score", []string{"api", "num", "str", "sum", "head"}, []string{"array", "closure", "function-field"}},
	{"index", []string{"api", "medium", "head", "score", "group"}, []string{"range-function"}},
	{"tie", []string{"api", "str", "pax", "medium", "head", "group"}, []string{"fallthrough", "closure"}},
	{"chain", []string{"api", "sum", "pax", "medium", "score", "group", "tie"}, []string{"method-expression", "array"}},
	{"chart", []string{"api", "chain"}, []string{"range-function", "label", "closure"}},
	{"rebuild", []string{"api", "sink", "pax", "sparse", "meta", "write", "index", "chain"}, []string{"clone"}},
}

// library is what a layer may import beside the project's packages.
var library = []string{
	"bytes", "cmp", "container/heap", "errors", "iter", "maps", "math", "math/bits", "slices", "sort",
	"strconv", "strings", "sync", "sync/atomic", "unicode", "unicode/utf8",
}

// code reads packages of the project, without their tests, and tells the types in them.
type code struct {
	fset  *token.FileSet
	info  *types.Info
	std   types.Importer
	packs map[string]*types.Package
}

func newCode() *code {
	// A test that was built with -trimpath does not know where the library's source is.
	if build.Default.GOROOT == "" {
		out, _ := exec.Command("go", "env", "GOROOT").Output()
		build.Default.GOROOT = strings.TrimSpace(string(out))
	}
	fset := token.NewFileSet()
	info := &types.Info{Types: map[ast.Expr]types.TypeAndValue{}, Selections: map[*ast.SelectorExpr]*types.Selection{}}
	return &code{fset, info, importer.ForCompiler(fset, "source", nil), map[string]*types.Package{}}
}

func (c *code) Import(path string) (*types.Package, error) {
	name, ok := strings.CutPrefix(path, module)
	if !ok {
		return c.std.Import(path)
	}
	// Read twice, a package would have each of its types twice, and those are not the same.
	if p := c.packs[path]; p != nil {
		return p, nil
	}
	files, err := c.files(name)
	if err != nil {
		return nil, err
	}
	config := types.Config{Importer: c}
	p, err := config.Check(path, c.fset, files, c.info)
	if err != nil {
		return nil, err
	}
	c.packs[path] = p
	return p, nil
}

func (c *code) files(name string) ([]*ast.File, error) {
	paths, err := filepath.Glob(filepath.Join("..", name, "*.go"))
	if err != nil {
		return nil, err
	}
	var l []*ast.File
	for _, path := range paths {
		if strings.HasSuffix(path, "_test.go") {
			continue
		}
		f, err := parser.ParseFile(c.fset, path, nil, 0)
		if err != nil {
			return nil, err
		}
		l = append(l, f)
	}
	return l, nil
}

// ways tells those that a file has.
func (c *code) ways(f *ast.File) map[string]bool {
	found := map[string]bool{}
	calls := map[ast.Expr]bool{}
	ast.Inspect(f, func(n ast.Node) bool {
		switch n := n.(type) {
		case *ast.RangeStmt:
			found[c.rangeOver(n.X)] = true
		case *ast.MapType:
			found["map"] = true
		case *ast.LabeledStmt:
			found["label"] = true
		case *ast.BranchStmt:
			found[n.Tok.String()] = true
		case *ast.FuncLit:
			found["closure"] = true
		case *ast.Ellipsis:
			found[dots(n)] = true
		case *ast.ArrayType:
			found[size(n)] = true
		case *ast.BinaryExpr:
			found[c.compared(n)] = true
		case *ast.SliceExpr:
			found[indices(n)] = true
		case *ast.CallExpr:
			found[called(n)] = true
			calls[n.Fun] = true
		case *ast.SelectorExpr:
			// A method that is called is none that is handed on; the call is seen ahead of it.
			if !calls[n] {
				found[c.selected(n)] = true
			}
			found[c.reached(n)] = true
		case *ast.StructType:
			found[embeds(n)] = true
			found[c.fields(n)] = true
		case *ast.DeferStmt:
			found["defer"] = true
		case *ast.TypeAssertExpr:
			found[asserted(n)] = true
		case *ast.UnaryExpr:
			found[taken(n)] = true
		case *ast.File:
			found[tables(n)] = true
		}
		return true
	})
	return found
}

func (c *code) rangeOver(x ast.Expr) string {
	switch u := c.info.Types[x].Type.Underlying().(type) {
	case *types.Signature:
		return "range-function"
	case *types.Basic:
		if u.Info()&types.IsString != 0 {
			return "range-string"
		}
		return "range-integer"
	}
	return "range"
}

func (c *code) compared(n *ast.BinaryExpr) string {
	if n.Op != token.EQL && n.Op != token.NEQ {
		return "reckoned"
	}
	switch c.info.Types[n.X].Type.Underlying().(type) {
	case *types.Struct:
		return "struct-compared"
	case *types.Array:
		return "array-compared"
	}
	return "compared"
}

// selected tells a method with what it is asked of from one without, from a field, and from a name of another package.
func (c *code) selected(n *ast.SelectorExpr) string {
	s := c.info.Selections[n]
	switch {
	case s == nil:
		return "selected"
	case s.Kind() == types.MethodVal:
		return "method-value"
	case s.Kind() == types.MethodExpr:
		return "method-expression"
	}
	return "selected"
}

// reached tells a method that an embedded field has, and its struct by that, from what is a type's own.
func (c *code) reached(n *ast.SelectorExpr) string {
	if s := c.info.Selections[n]; s != nil && s.Kind() == types.MethodVal && len(s.Index()) > 1 {
		return "promoted"
	}
	return "own"
}

// embeds tells a struct with a field that has no name of its own.
func embeds(n *ast.StructType) string {
	if slices.ContainsFunc(n.Fields.List, func(f *ast.Field) bool { return len(f.Names) == 0 }) {
		return "embedding"
	}
	return "struct"
}

// fields tells a struct with a function in one of its fields.
func (c *code) fields(n *ast.StructType) string {
	isFunction := func(f *ast.Field) bool {
		_, ok := c.info.Types[f.Type].Type.Underlying().(*types.Signature)
		return ok
	}
	if slices.ContainsFunc(n.Fields.List, isFunction) {
		return "function-field"
	}
	return "struct"
}

// size tells an array from a slice, that has none.
func size(n *ast.ArrayType) string {
	if n.Len == nil {
		return "slice"
	}
	return "array"
}

// indices tells a cut that also says how far its memory goes.
func indices(n *ast.SliceExpr) string {
	if n.Slice3 {
		return "three-index"
	}
	return "cut"
}

// called tells a call of the library's that makes new memory of a list, one that finds an error, and those that stop a call, and go on.
func called(n *ast.CallExpr) string {
	switch name := types.ExprString(n.Fun); name {
	case "slices.Clone", "bytes.Clone":
		return "clone"
	case "errors.As":
		return "errors-as"
	case "panic", "recover":
		return name
	}
	return "call"
}

// asserted tells an assertion from the head of a type switch, that names no type.
func asserted(n *ast.TypeAssertExpr) string {
	if n.Type == nil {
		return "switched"
	}
	return "assertion"
}

// taken tells where something is from what is reckoned of it.
func taken(n *ast.UnaryExpr) string {
	if n.Op == token.AND {
		return "pointer"
	}
	return "reckoned"
}

// tables tells whether a file has a list at its top that is written out where it is declared.
func tables(f *ast.File) string {
	for _, d := range f.Decls {
		g, ok := d.(*ast.GenDecl)
		if !ok || g.Tok != token.VAR {
			continue
		}
		for _, s := range g.Specs {
			for _, v := range s.(*ast.ValueSpec).Values {
				if _, ok := v.(*ast.CompositeLit); ok {
					return "table"
				}
			}
		}
	}
	return "file"
}

// dots tells those of a variadic function from those of an array's length.
func dots(n *ast.Ellipsis) string {
	if n.Elt == nil {
		return "counted"
	}
	return "variadic"
}

func TestStandsOn(t *testing.T) {
	for _, layer := range layers {
		files, err := newCode().files(layer.name)
		if err != nil || len(files) == 0 {
			t.Fatalf("%s: %d files, %v", layer.name, len(files), err)
		}
		for _, f := range files {
			for _, i := range f.Imports {
				path := strings.Trim(i.Path.Value, `"`)
				name, ok := strings.CutPrefix(path, module)
				if ok && !slices.Contains(layer.calls, name) || !ok && !slices.Contains(library, path) {
					t.Errorf("%s imports %s", layer.name, path)
				}
			}
		}
	}
}

func TestWays(t *testing.T) {
	for _, layer := range layers {
		c := newCode()
		files, err := c.files(layer.name)
		if err != nil {
			t.Fatal(err)
		}
		config := types.Config{Importer: c}
		if _, err := config.Check(module+layer.name, c.fset, files, c.info); err != nil {
			t.Fatal(err)
		}
		for _, way := range layer.ways {
			if !slices.ContainsFunc(files, func(f *ast.File) bool { return c.ways(f)[way] }) {
				t.Errorf("%s has no %s", layer.name, way)
			}
		}
	}
}
