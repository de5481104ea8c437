package num

import (
	"go/ast"
	"go/parser"
	"go/token"
	"go/types"
	"path/filepath"
	"strings"
	"testing"
)

// source is the package's own code, without its tests.
func source(t *testing.T, fset *token.FileSet, dir string) []*ast.File {
	t.Helper()
	names, err := filepath.Glob(filepath.Join(dir, "*.go"))
	if err != nil {
		t.Fatal(err)
	}
	var l []*ast.File
	for _, name := range names {
		if strings.HasSuffix(name, "_test.go") {
			continue
		}
		f, err := parser.ParseFile(fset, name, nil, 0)
		if err != nil {
			t.Fatal(err)
		}
		l = append(l, f)
	}
	return l
}

type finder func(path string) (*types.Package, error)

func (f finder) Import(path string) (*types.Package, error) { return f(path) }

func TestStandsOnApiAlone(t *testing.T) {
	for _, f := range source(t, token.NewFileSet(), ".") {
		for _, i := range f.Imports {
			if i.Path.Value != `"mudlark/api"` {
				t.Errorf("imports %s", i.Path.Value)
			}
		}
	}
}

func TestRangesOverAnInteger(t *testing.T) {
	fset := token.NewFileSet()
	info := &types.Info{Types: map[ast.Expr]types.TypeAndValue{}}
	config := types.Config{Importer: finder(func(path string) (*types.Package, error) {
		api := types.Config{}
		return api.Check(path, fset, source(t, fset, "../api"), nil)
	})}
	files := source(t, fset, ".")
	if _, err := config.Check("mudlark/num", fset, files, info); err != nil {
		t.Fatal(err)
	}
	found := false
	for _, f := range files {
		ast.Inspect(f, func(n ast.Node) bool {
			if r, ok := n.(*ast.RangeStmt); ok {
				b, isBasic := info.Types[r.X].Type.Underlying().(*types.Basic)
				found = found || isBasic && b.Info()&types.IsInteger != 0
			}
			return true
		})
	}
	if !found {
		t.Error("no range over an integer")
	}
}
