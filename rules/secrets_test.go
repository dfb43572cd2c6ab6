package rules

import (
	"go/ast"
	"go/importer"
	"go/parser"
	"go/token"
	"go/types"
	"path/filepath"
	"slices"
	"strings"
	"testing"
)

// secretWords are the layers all of whose words (of type uint64 or int64) count as secret, those of points included, while numbers of type int are public.
var secretWords = []string{"mask", "word", "limb", "diff", "orient", "circle", "segment", "array", "network", "sorting", "polygon", "disc", "fence", "header"}

// loader checks the types of the project's packages, without their tests, and of those that they import.
type loader struct {
	files    *token.FileSet
	info     *types.Info
	checked  map[string]*types.Package
	texts    map[string][]*ast.File
	standard types.Importer
}

func newLoader() *loader {
	files := token.NewFileSet()
	return &loader{
		files:    files,
		info:     &types.Info{Types: map[ast.Expr]types.TypeAndValue{}, Uses: map[*ast.Ident]types.Object{}},
		checked:  map[string]*types.Package{},
		texts:    map[string][]*ast.File{},
		standard: importer.ForCompiler(files, "source", nil),
	}
}

// Import implements types.Importer.
func (l *loader) Import(path string) (*types.Package, error) {
	layer, own := strings.CutPrefix(path, "geofence/")
	if !own {
		return l.standard.Import(path)
	}
	if p := l.checked[path]; p != nil {
		return p, nil
	}
	paths, err := filepath.Glob(filepath.Join("..", layer, "*.go"))
	if err != nil {
		return nil, err
	}
	for _, file := range paths {
		if strings.HasSuffix(file, "_test.go") {
			continue
		}
		text, err := parser.ParseFile(l.files, file, nil, 0)
		if err != nil {
			return nil, err
		}
		l.texts[path] = append(l.texts[path], text)
	}
	config := types.Config{Importer: l}
	p, err := config.Check(path, l.files, l.texts[path], l.info)
	l.checked[path] = p
	return p, err
}

// secret returns whether an expression is a word that is not a constant.
func (l *loader) secret(e ast.Expr) bool {
	if e == nil {
		return false
	}
	v := l.info.Types[e]
	return v.IsValue() && v.Value == nil && isWord(v.Type)
}

// holdsSecrets returns whether an expression is a word that is not a constant, or a list, struct or interface that may hold words.
func (l *loader) holdsSecrets(e ast.Expr) bool {
	v := l.info.Types[e]
	return v.IsValue() && v.Value == nil && holdsWords(v.Type)
}

func isWord(t types.Type) bool {
	b, ok := t.Underlying().(*types.Basic)
	return ok && (b.Kind() == types.Uint64 || b.Kind() == types.Int64)
}

// holdsWords returns whether t is a word, or a list, struct or interface that may hold words.
func holdsWords(t types.Type) bool {
	switch x := t.Underlying().(type) {
	case *types.Slice:
		return holdsWords(x.Elem())
	case *types.Array:
		return holdsWords(x.Elem())
	case *types.Struct:
		for field := range x.Fields() {
			if holdsWords(field.Type()) {
				return true
			}
		}
	case *types.Interface:
		return true
	}
	return isWord(t)
}

// reveals returns whether n decides on a word, uses it as an index, a bound or a shift count, or makes a public value of it.
func (l *loader) reveals(n ast.Node) bool {
	switch x := n.(type) {
	case *ast.BinaryExpr:
		return l.operationReveals(x)
	case *ast.AssignStmt:
		switch x.Tok {
		case token.SHL_ASSIGN, token.SHR_ASSIGN, token.QUO_ASSIGN, token.REM_ASSIGN:
			return l.secret(x.Rhs[0])
		}
	case *ast.IndexExpr:
		return l.holdsSecrets(x.Index)
	case *ast.SliceExpr:
		return l.secret(x.Low) || l.secret(x.High) || l.secret(x.Max)
	case *ast.RangeStmt:
		return l.secret(x.X)
	case *ast.SwitchStmt:
		return x.Tag != nil && l.holdsSecrets(x.Tag)
	case *ast.CallExpr:
		return l.callReveals(x)
	}
	return false
}

func (l *loader) operationReveals(x *ast.BinaryExpr) bool {
	switch x.Op {
	case token.EQL, token.NEQ, token.LSS, token.LEQ, token.GTR, token.GEQ:
		if l.info.Types[x.X].IsNil() || l.info.Types[x.Y].IsNil() {
			return false
		}
		return l.holdsSecrets(x.X) || l.holdsSecrets(x.Y)
	case token.SHL, token.SHR:
		return l.secret(x.Y)
	case token.QUO, token.REM: // A processor's time for these depends on the operands.
		return l.secret(x.X) || l.secret(x.Y)
	}
	return false
}

// callReveals returns whether a call makes a public value of words, by a conversion or outside the project, whose own functions are checked where they are declared.
func (l *loader) callReveals(call *ast.CallExpr) bool {
	f := l.info.Types[call.Fun]
	switch {
	case f.IsType():
		return l.secret(call.Args[0]) && !isWord(f.Type)
	case f.IsBuiltin():
		name := ast.Unparen(call.Fun).(*ast.Ident).Name
		return name != "append" && slices.ContainsFunc(call.Args, l.secret)
	}
	from, ok := ast.Unparen(call.Fun).(*ast.SelectorExpr)
	if !ok {
		return false
	}
	o := l.info.Uses[from.Sel]
	if _, ok := o.(*types.Func); !ok || strings.HasPrefix(o.Pkg().Path(), "geofence/") {
		return false
	}
	return slices.ContainsFunc(call.Args, l.holdsSecrets) && !onlyWords(l.info.TypeOf(call))
}

// onlyWords returns whether all results of a call, whose type is t, hold words.
func onlyWords(t types.Type) bool {
	results, ok := t.(*types.Tuple)
	if !ok {
		return holdsWords(t)
	}
	for v := range results.Variables() {
		if !holdsWords(v.Type()) {
			return false
		}
	}
	return true
}

// places returns the positions in a checked package at which a word is revealed.
func (l *loader) places(path string) []token.Position {
	var places []token.Position
	for _, text := range l.texts[path] {
		ast.Inspect(text, func(n ast.Node) bool {
			if n != nil && l.reveals(n) {
				places = append(places, l.files.Position(n.Pos()))
			}
			return true
		})
	}
	return places
}

func TestWordsStaySecret(t *testing.T) {
	l := newLoader()
	for _, layer := range secretWords {
		path := "geofence/" + layer
		if _, err := l.Import(path); err != nil {
			t.Fatal(err)
		}
		if len(l.texts[path]) == 0 {
			t.Errorf("package %s has no files", layer)
		}
		for _, place := range l.places(path) {
			t.Errorf("%s: a decision, an index or a public value depends on a word", place)
		}
	}
}

// TestRevealedWordsAreFound checks the check itself, as its silence would otherwise say nothing.
func TestRevealedWordsAreFound(t *testing.T) {
	const frame = "package sample\nimport (\"math/bits\"; \"slices\")\nvar _, _ = bits.Len64, slices.Max[[]int]\ntype point struct{ x, y int64 }\nfunc f(a, b []uint64, x uint64, y int64, n int, p, q point) {\n"
	l := newLoader()
	for _, c := range []struct {
		body  string
		found bool
	}{
		{"if x == 0 { return }", true},
		{"if a[0] < b[0] { return }", true},
		{"_ = y > 0", true},
		{"_ = [2]uint64(a) == [2]uint64(b)", true},
		{"_ = p == q", true},
		{"_ = p.x < q.x", true},
		{"_ = [2]point{p, q} != [2]point{q, p}", true},
		{"_ = slices.Contains([]point{p}, q)", true},
		{"_ = any(p) == any(q)", true},
		{"_ = any(p) == p", true},
		{"_ = a[p.y]", true},
		{"_ = map[point]int{}[p]", true},
		{"_ = a[x]", true},
		{"_ = a[x:]", true},
		{"_ = a[:y]", true},
		{"_ = a[0:0:x]", true},
		{"for range x { }", true},
		{"switch x { }", true},
		{"switch p { case q: }", true},
		{"switch any(p) { case q: }", true},
		{"_ = int(x)", true},
		{"_ = uint8(y)", true},
		{"_ = x >> a[0]", true},
		{"x <<= x", true},
		{"x /= a[0]", true},
		{"_ = x / a[0]", true},
		{"_ = make([]int, x)", true},
		{"_ = min(x, 1)", true},
		{"_ = bits.Len64(x)", true},
		{"_ = slices.Equal(a, b)", true},
		{"_ = slices.Contains(a, 0)", true},
		{"_ = slices.Index(a, x)", true},
		{"_, _ = slices.BinarySearch(a, x)", true},
		{"if p := &a[0]; *p > 0 { return }", true},
		{"for _, v := range slices.All(a) { if v == x { break } }", true},
		{"for range func(yield func(*uint64) bool) { _ = x == 0 && yield(&x) } { }", true},
		{"for range func(yield func(int) bool) { yield(int(x)) } { }", true},
		{"for i := range func(yield func(uint64) bool) { yield(x) } { a[i] = 0 }", true},
		{"_ = a == nil", false},
		{"_ = any(p) == nil", false},
		{"switch any(p).(type) { case point: }", false},
		{"switch n { case 1: }", false},
		{"switch { case n == 1: }", false},
		{"const c uint64 = 1; _ = c == 1", false},
		{"if n == 0 || len(a) != len(b) { return }", false},
		{"for i := range n { a[i] = x>>63 + uint64(y) }", false},
		{"for i := range a { a[i] |= b[i] << n }", false},
		{"_, _ = bits.Mul64(x, a[0])", false},
		{"_ = a[min(n, 1):]", false},
		{"_ = make([]uint64, len(a))", false},
		{"_ = append(a, x)", false},
		{"_ = slices.Clone(a)", false},
		{"_ = slices.Clone([]point{p, q})", false},
		{"_ = point{p.x - q.x, p.y - q.y}", false},
		{"_ = struct{ n int }{n} == struct{ n int }{1}", false},
		{"for _, v := range a[:copy(a, b)] { x ^= v }", false},
		{"_ = uint64(n) + uint64(len(a))", false},
		{"for p := range func(yield func(*uint64) bool) { if !yield(&a[n]) { return } } { *p |= x }", false},
	} {
		text, err := parser.ParseFile(l.files, "sample.go", frame+c.body+"\n}", 0)
		if err != nil {
			t.Fatal(err)
		}
		l.texts[c.body] = []*ast.File{text}
		config := types.Config{Importer: l}
		if _, err := config.Check("sample", l.files, l.texts[c.body], l.info); err != nil {
			t.Fatalf("%s: %v", c.body, err)
		}
		if found := len(l.places(c.body)) > 0; found != c.found {
			t.Errorf("%s: found %v, want %v", c.body, found, c.found)
		}
	}
}
