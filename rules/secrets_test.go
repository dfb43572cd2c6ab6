package rules

import (
	"go/ast"
	"go/importer"
	"go/parser"
	"go/token"
	"go/types"
	"path/filepath"
	"slices"
	"strings"
	"testing"
)

// secretWords are the layers all of whose words (of type uint64 or int64) count as secret, those of points included, while numbers of type int are public.
var secretWords = []string{"mask", "word", "limb", "diff", "orient", "circle", "segment", "array", "network", "sorting", "polygon", "disc", "fence", "header", "codec", "engine"}

// secretBytes are those of these layers whose bytes (of type uint8) count as secret words, too. (The bytes of headers are public.)
var secretBytes = []string{"codec"}

// revealing are the functions that have to reveal something: Read decides on the first byte of a response, errorOf makes an error of it, answer takes Value and Count, which are of type int, and isAnswer decides on whether there is an answer at all; valueOf makes a Value, which is of type int, of a word.
var revealing = map[string][]string{"codec": {"Read", "errorOf", "answer", "isAnswer"}, "engine": {"valueOf"}}

// loader checks the types of the project's packages, without their tests, and of those that they import.
type loader struct {
	files    *token.FileSet
	info     *types.Info
	checked  map[string]*types.Package
	texts    map[string][]*ast.File
	standard types.Importer
	bytes    bool // whether bytes count as words
}

func newLoader() *loader {
	files := token.NewFileSet()
	return &loader{
		files:    files,
		info:     &types.Info{Types: map[ast.Expr]types.TypeAndValue{}, Uses: map[*ast.Ident]types.Object{}},
		checked:  map[string]*types.Package{},
		texts:    map[string][]*ast.File{},
		standard: importer.ForCompiler(files, "source", nil),
	}
}

// Import implements types.Importer.
func (l *loader) Import(path string) (*types.Package, error) {
	layer, own := strings.CutPrefix(path, "geofence/")
	if !own {
		return l.standard.Import(path)
	}
	if p := l.checked[path]; p != nil {
		return p, nil
	}
	paths, err := filepath.Glob(filepath.Join("..", layer, "*.go"))
	if err != nil {
		return nil, err
	}
	for _, file := range paths {
		if strings.HasSuffix(file, "_test.go") {
			continue
		}
		text, err := parser.ParseFile(l.files, file, nil, 0)
		if err != nil {
			return nil, err
		}
		l.texts[path] = append(l.texts[path], text)
	}
	config := types.Config{Importer: l}
	p, err := config.Check(path, l.files, l.texts[path], l.info)
	l.checked[path] = p
	return p, err
}

// secret returns whether an expression is a word that is not a constant.
func (l *loader) secret(e ast.Expr) bool {
	if e == nil {
		return false
	}
	v := l.info.Types[e]
	return v.IsValue() && v.Value == nil && l.isWord(v.Type)
}

// holdsSecrets returns whether an expression is a word that is not a constant, or a list, struct or interface that may hold words.
func (l *loader) holdsSecrets(e ast.Expr) bool {
	v := l.info.Types[e]
	return v.IsValue() && v.Value == nil && l.holdsWords(v.Type)
}

func (l *loader) isWord(t types.Type) bool {
	b, ok := t.Underlying().(*types.Basic)
	return ok && (b.Kind() == types.Uint64 || b.Kind() == types.Int64 || l.bytes && b.Kind() == types.Uint8)
}

// holdsWords returns whether t is a word, or a list, struct or interface that may hold words.
func (l *loader) holdsWords(t types.Type) bool {
	switch x := t.Underlying().(type) {
	case *types.Slice:
		return l.holdsWords(x.Elem())
	case *types.Array:
		return l.holdsWords(x.Elem())
	case *types.Struct:
		for field := range x.Fields() {
			if l.holdsWords(field.Type()) {
				return true
			}
		}
	case *types.Interface:
		return true
	}
	return l.isWord(t)
}

// reveals returns whether n decides on a word, uses it as an index, a bound or a shift count, or makes a public value of it.
func (l *loader) reveals(n ast.Node) bool {
	switch x := n.(type) {
	case *ast.BinaryExpr:
		return l.operationReveals(x)
	case *ast.AssignStmt:
		switch x.Tok {
		case token.SHL_ASSIGN, token.SHR_ASSIGN, token.QUO_ASSIGN, token.REM_ASSIGN:
			return l.secret(x.Rhs[0])
		}
	case *ast.IndexExpr:
		return l.holdsSecrets(x.Index)
	case *ast.SliceExpr:
		return l.secret(x.Low) || l.secret(x.High) || l.secret(x.Max)
	case *ast.RangeStmt:
		return l.secret(x.X)
	case *ast.SwitchStmt:
		return x.Tag != nil && l.holdsSecrets(x.Tag)
	case *ast.CallExpr:
		return l.callReveals(x)
	}
	return false
}

func (l *loader) operationReveals(x *ast.BinaryExpr) bool {
	switch x.Op {
	case token.EQL, token.NEQ, token.LSS, token.LEQ, token.GTR, token.GEQ:
		if l.info.Types[x.X].IsNil() || l.info.Types[x.Y].IsNil() {
			return false
		}
		return l.holdsSecrets(x.X) || l.holdsSecrets(x.Y)
	case token.SHL, token.SHR:
		return l.secret(x.Y)
	case token.QUO, token.REM: // A processor's time for these depends on the operands.
		return l.secret(x.X) || l.secret(x.Y)
	}
	return false
}

// callReveals returns whether a call makes a public value of words, by a conversion or outside the project, whose own functions are checked where they are declared.
func (l *loader) callReveals(call *ast.CallExpr) bool {
	f := l.info.Types[call.Fun]
	switch {
	case f.IsType():
		return l.secret(call.Args[0]) && !l.isWord(f.Type) || l.holdsSecrets(call.Args[0]) && !l.holdsWords(f.Type)
	case f.IsBuiltin():
		name := ast.Unparen(call.Fun).(*ast.Ident).Name
		return name != "append" && slices.ContainsFunc(call.Args, l.secret)
	}
	from, ok := ast.Unparen(call.Fun).(*ast.SelectorExpr)
	if !ok {
		return false
	}
	o := l.info.Uses[from.Sel]
	if _, ok := o.(*types.Func); !ok || strings.HasPrefix(o.Pkg().Path(), "geofence/") {
		return false
	}
	return slices.ContainsFunc(call.Args, l.holdsSecrets) && !l.onlyWords(l.info.TypeOf(call))
}

// onlyWords returns whether all results of a call, whose type is t, hold words.
func (l *loader) onlyWords(t types.Type) bool {
	results, ok := t.(*types.Tuple)
	if !ok {
		return l.holdsWords(t)
	}
	for v := range results.Variables() {
		if !l.holdsWords(v.Type()) {
			return false
		}
	}
	return true
}

// place is where a word is revealed: a position, and the name of the function that it is in, if there is one.
type place struct {
	position token.Position
	function string
}

// places returns the places in a checked package at which a word is revealed.
func (l *loader) places(path string) []place {
	var places []place
	for _, text := range l.texts[path] {
		for _, d := range text.Decls {
			name := ""
			if f, ok := d.(*ast.FuncDecl); ok {
				name = f.Name.Name
			}
			ast.Inspect(d, func(n ast.Node) bool {
				if n != nil && l.reveals(n) {
					places = append(places, place{l.files.Position(n.Pos()), name})
				}
				return true
			})
		}
	}
	return places
}

func TestWordsStaySecret(t *testing.T) {
	l := newLoader()
	for _, layer := range secretWords {
		path, permitted := "geofence/"+layer, revealing[layer]
		l.bytes = slices.Contains(secretBytes, layer)
		if _, err := l.Import(path); err != nil {
			t.Fatal(err)
		}
		if len(l.texts[path]) == 0 {
			t.Errorf("package %s has no files", layer)
		}
		places := l.places(path)
		for _, p := range places {
			if !slices.Contains(permitted, p.function) {
				t.Errorf("%s: a decision, an index or a public value depends on a word", p.position)
			}
		}
		for _, name := range permitted {
			if !slices.ContainsFunc(places, func(p place) bool { return p.function == name }) {
				t.Errorf("%s of %s reveals nothing, and needs no permission", name, layer)
			}
		}
	}
}

// TestRevealedWordsAreFound checks the check itself, as its silence would otherwise say nothing.
func TestRevealedWordsAreFound(t *testing.T) {
	l := newLoader()
	for _, c := range []struct {
		body  string
		found bool
	}{
		{"if x == 0 { return }", true},
		{"if a[0] < b[0] { return }", true},
		{"_ = y > 0", true},
		{"_ = [2]uint64(a) == [2]uint64(b)", true},
		{"_ = p == q", true},
		{"_ = p.x < q.x", true},
		{"_ = [2]point{p, q} != [2]point{q, p}", true},
		{"_ = slices.Contains([]point{p}, q)", true},
		{"_ = any(p) == any(q)", true},
		{"_ = any(p) == p", true},
		{"_ = a[p.y]", true},
		{"_ = map[point]int{}[p]", true},
		{"_ = a[x]", true},
		{"_ = a[x:]", true},
		{"_ = a[:y]", true},
		{"_ = a[0:0:x]", true},
		{"for range x { }", true},
		{"switch x { }", true},
		{"switch p { case q: }", true},
		{"switch any(p) { case q: }", true},
		{"_ = int(x)", true},
		{"_ = uint8(y)", true},
		{"_ = x >> a[0]", true},
		{"x <<= x", true},
		{"x /= a[0]", true},
		{"_ = x / a[0]", true},
		{"_ = make([]int, x)", true},
		{"_ = min(x, 1)", true},
		{"_ = bits.Len64(x)", true},
		{"_ = slices.Equal(a, b)", true},
		{"_ = slices.Contains(a, 0)", true},
		{"_ = slices.Index(a, x)", true},
		{"_, _ = slices.BinarySearch(a, x)", true},
		{"if p := &a[0]; *p > 0 { return }", true},
		{"for _, v := range slices.All(a) { if v == x { break } }", true},
		{"for range func(yield func(*uint64) bool) { _ = x == 0 && yield(&x) } { }", true},
		{"for range func(yield func(int) bool) { yield(int(x)) } { }", true},
		{"for i := range func(yield func(uint64) bool) { yield(x) } { a[i] = 0 }", true},
		{"_ = a == nil", false},
		{"_ = any(p) == nil", false},
		{"switch any(p).(type) { case point: }", false},
		{"switch n { case 1: }", false},
		{"switch { case n == 1: }", false},
		{"const c uint64 = 1; _ = c == 1", false},
		{"if n == 0 || len(a) != len(b) { return }", false},
		{"for i := range n { a[i] = x>>63 + uint64(y) }", false},
		{"for i := range a { a[i] |= b[i] << n }", false},
		{"_, _ = bits.Mul64(x, a[0])", false},
		{"_ = a[min(n, 1):]", false},
		{"_ = make([]uint64, len(a))", false},
		{"_ = append(a, x)", false},
		{"_ = slices.Clone(a)", false},
		{"_ = slices.Clone([]point{p, q})", false},
		{"_ = point{p.x - q.x, p.y - q.y}", false},
		{"_ = struct{ n int }{n} == struct{ n int }{1}", false},
		{"for _, v := range a[:copy(a, b)] { x ^= v }", false},
		{"_ = uint64(n) + uint64(len(a))", false},
		{"for p := range func(yield func(*uint64) bool) { if !yield(&a[n]) { return } } { *p |= x }", false},
	} {
		if found := l.findsIn(t, c.body); found != c.found {
			t.Errorf("%s: found %v, want %v", c.body, found, c.found)
		}
	}
}

// TestRevealedBytesAreFound uses bytes, which count as words only if the loader is told so.
func TestRevealedBytesAreFound(t *testing.T) {
	l := newLoader()
	for _, c := range []struct {
		body      string
		uncounted bool // whether it is found where bytes do not count
		counted   bool // whether it is found where they do
	}{
		{"if s[0] == 0 { return }", false, true},
		{"_ = a[s[0]]", false, true},
		{"_ = int(s[n])", false, true},
		{"switch s[0] { case 1: }", false, true},
		{"_ = string(s)", false, true},
		{"_ = map[string]int{}[string(s)]", false, true},
		{"_ = slices.Equal(s, s)", false, true},
		{"_ = struct{ v byte }{s[0]} == struct{ v byte }{}", false, true},
		{"for _, v := range s { if v > 1 { break } }", false, true},
		{"func() { _ = int(s[0]) }()", false, true},
		{"_ = int64(s[0]) < 0", true, true},
		{"_ = append(s, byte(x>>(8*n)))", true, false},
		{"x |= uint64(s[n]) << (8 * n)", false, false},
		{"if len(s) == n { return }", false, false},
		{"_ = slices.Clone(s)[n:]", false, false},
	} {
		l.bytes = false
		uncounted := l.findsIn(t, c.body)
		l.bytes = true
		counted := l.findsIn(t, c.body)
		if uncounted != c.uncounted || counted != c.counted {
			t.Errorf("%s: found %v, and %v where bytes count, want %v and %v", c.body, uncounted, counted, c.uncounted, c.counted)
		}
	}
}

// findsIn returns whether a function with this body reveals a word.
func (l *loader) findsIn(t *testing.T, body string) bool {
	t.Helper()
	const frame = "package sample\nimport (\"math/bits\"; \"slices\")\nvar _, _ = bits.Len64, slices.Max[[]int]\ntype point struct{ x, y int64 }\nfunc f(a, b []uint64, x uint64, y int64, n int, p, q point, s []byte) {\n"
	text, err := parser.ParseFile(l.files, "sample.go", frame+body+"\n}", 0)
	if err != nil {
		t.Fatal(err)
	}
	l.texts[body] = []*ast.File{text}
	config := types.Config{Importer: l}
	if _, err := config.Check("sample", l.files, l.texts[body], l.info); err != nil {
		t.Fatalf("%s: %v", body, err)
	}
	places := l.places(body)
	return len(places) > 0 && places[0].function == "f"
}
