// Package rules checks the text of the program against the document's rules that concern all layers.
package rules

import (
	"go/ast"
	"go/parser"
	"go/token"
	"path/filepath"
	"slices"
	"strconv"
	"strings"
	"testing"
)

// layers are the packages of the layers and, of each, the packages whose exported functions it may use.
var layers = []struct{ name, calls string }{
	{"mask", "api"},
	{"word", "mask"},
	{"limb", "api mask word"},
	{"decimal", "api limb"},
	{"diff", "api limb"},
	{"orient", "api mask limb diff"},
	{"circle", "api limb diff orient"},
	{"segment", "api mask orient"},
	{"plane", "api"},
	{"tape", "api"},
	{"array", "api mask tape"},
	{"network", "api mask"},
	{"sorting", "api mask tape network"},
	{"polygon", "api mask orient tape"},
	{"disc", "api mask orient circle tape"},
	{"fence", "api mask tape polygon disc"},
	{"header", "api fence"},
	{"codec", "api fence header"},
	{"engine", "api mask orient circle tape polygon fence codec"},
	{"batch", "api mask tape sorting fence codec"},
	{"serve", "api tape codec engine batch"},
	{"trace", "api tape network header serve"},
	{"script", "api decimal orient circle codec engine batch serve trace"},
}

// library are the packages of the standard library that the program may import.
const library = "bytes cmp container/heap errors iter maps math math/bits slices sort strconv strings sync sync/atomic unicode unicode/utf8"

// withoutBranches are the layers whose functions have no public argument that they could decide on.
var withoutBranches = []string{"mask", "word"}

// inspect parses the files of a layer, without its tests, and passes each node on to visit.
func inspect(t *testing.T, layer string, visit func(place token.Position, n ast.Node)) {
	t.Helper()
	paths, err := filepath.Glob(filepath.Join("..", layer, "*.go"))
	if err != nil {
		t.Fatal(err)
	}
	paths = slices.DeleteFunc(paths, func(path string) bool { return strings.HasSuffix(path, "_test.go") })
	if len(paths) == 0 {
		t.Fatalf("package %s has no files", layer)
	}
	files := token.NewFileSet()
	for _, path := range paths {
		file, err := parser.ParseFile(files, path, nil, 0)
		if err != nil {
			t.Fatal(err)
		}
		ast.Inspect(file, func(n ast.Node) bool {
			if n != nil {
				visit(files.Position(n.Pos()), n)
			}
			return true
		})
	}
}

// allowed returns whether a layer that may call the packages of calls may import path.
func allowed(path, calls string) bool {
	if own, ok := strings.CutPrefix(path, "geofence/"); ok {
		return slices.Contains(strings.Fields(calls), own)
	}
	return slices.Contains(strings.Fields(library), path)
}

func TestImports(t *testing.T) {
	for _, layer := range layers {
		inspect(t, layer.name, func(place token.Position, n ast.Node) {
			spec, ok := n.(*ast.ImportSpec)
			if !ok {
				return
			}
			path, err := strconv.Unquote(spec.Path.Value)
			if err != nil || !allowed(path, layer.calls) {
				t.Errorf("%s: layer %s may not import %s", place, layer.name, spec.Path.Value)
			}
		})
	}
}

func TestNoDecisions(t *testing.T) {
	for _, layer := range withoutBranches {
		inspect(t, layer, func(place token.Position, n ast.Node) {
			if decides(n) {
				t.Errorf("%s: %T depends on a condition", place, n)
			}
		})
	}
}

// decides returns whether n is a branch, a loop, or an operation that yields a bool.
func decides(n ast.Node) bool {
	switch x := n.(type) {
	case *ast.IfStmt, *ast.ForStmt, *ast.RangeStmt, *ast.SwitchStmt, *ast.TypeSwitchStmt, *ast.SelectStmt, *ast.BranchStmt:
		return true
	case *ast.UnaryExpr:
		return x.Op == token.NOT
	case *ast.BinaryExpr:
		switch x.Op {
		case token.EQL, token.NEQ, token.LSS, token.LEQ, token.GTR, token.GEQ, token.LAND, token.LOR:
			return true
		}
	}
	return false
}
