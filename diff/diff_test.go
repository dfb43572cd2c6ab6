package diff_test

import (
	"math"
	"math/big"
	"slices"
	"testing"

	"geofence/api"
	"geofence/diff"
	"geofence/limb"
)

const (
	all      = 1<<64 - 1
	top      = 1 << 63
	least    = math.MinInt64
	greatest = math.MaxInt64
)

// words are the ends of the range of a coordinate, their neighbours and ordinary ones.
var words = []int64{least, least + 1, -1 << 62, -3037000500, -7, -2, -1, 0, 1, 2, 5, 4294967296, 1<<62 + 1, greatest - 1, greatest}

// value returns the value of the integer a.
func value(a []uint64) *big.Int {
	v := new(big.Int)
	for _, x := range slices.Backward(a) {
		v.Lsh(v, 64).Add(v, new(big.Int).SetUint64(x))
	}
	if a[len(a)-1] >= top {
		v.Sub(v, new(big.Int).Lsh(big.NewInt(1), uint(64*len(a))))
	}
	return v
}

// limbs returns the integer of n limbs that is congruent to v.
func limbs(v *big.Int, n int) []uint64 {
	a := make([]uint64, n)
	for i := range a {
		above := new(big.Int).Rsh(v, uint(64*i))
		a[i] = above.And(above, new(big.Int).SetUint64(all)).Uint64()
	}
	return a
}

// crossOf returns the exact cross product of the vectors with the coordinates a, b and c, d, and dotOf their scalar product.
func crossOf(a, b, c, d *big.Int) *big.Int {
	return new(big.Int).Sub(new(big.Int).Mul(a, d), new(big.Int).Mul(b, c))
}

func dotOf(a, b, c, d *big.Int) *big.Int {
	return new(big.Int).Add(new(big.Int).Mul(a, c), new(big.Int).Mul(b, d))
}

// vectors returns vectors of all pairs of some integers, among which are the ends of the range, whose negations and products wrap.
func vectors() []diff.Vector {
	integers := [][]uint64{
		{0, 0}, {1, 0}, {all, all}, {0, top}, {1, top}, {all, top - 1}, {all - 1, top - 1},
		{0, 1}, {all, 0}, {1, all}, {top, 0}, {0x123456789abcdef0, 0xfedcba9876543210},
	}
	var l []diff.Vector
	for _, x := range integers {
		for _, y := range integers {
			l = append(l, diff.Vector{X: x, Y: y})
		}
	}
	return l
}

// differences returns the vectors between points with coordinates of words, in which each coordinate takes many values.
func differences() []diff.Vector {
	var l []diff.Vector
	for i, x := range words {
		for j, y := range words {
			from := api.Point{X: words[(7*i+j)%len(words)], Y: words[(4*j+i)%len(words)]}
			l = append(l, diff.Between(from, api.Point{X: x, Y: y}))
		}
	}
	far, near := api.Point{X: greatest, Y: greatest}, api.Point{X: least, Y: least}
	return append(l, diff.Between(near, far), diff.Between(far, near), diff.Between(api.Point{X: least, Y: greatest}, api.Point{X: greatest, Y: least}))
}

// notVectors returns Vectors of which at least one coordinate does not have two limbs, some with capacity for them.
func notVectors() []diff.Vector {
	good := []uint64{3, 4}
	var l []diff.Vector
	for _, bad := range [][]uint64{nil, {}, {5}, good[:1], good[:0], {1, 2, 3}, {1, 2, 3, 4}, make([]uint64, api.MaxLimbs), make([]uint64, api.MaxLimbs+1)} {
		l = append(l, diff.Vector{X: bad, Y: good}, diff.Vector{X: good, Y: bad}, diff.Vector{X: bad, Y: bad})
	}
	// Wrong numbers of limbs that together are right.
	return append(l, diff.Vector{X: []uint64{1}, Y: []uint64{1, 2, 3}}, diff.Vector{X: []uint64{1, 2, 3}, Y: []uint64{1}})
}

// products are the functions of two vectors.
func products() map[string]func(u, v diff.Vector) []uint64 {
	return map[string]func(u, v diff.Vector) []uint64{
		"Cross": diff.Cross,
		"Dot":   diff.Dot,
		"Norm":  func(u, v diff.Vector) []uint64 { return diff.Norm(u) },
	}
}

func isZero(v diff.Vector) bool { return len(v.X) == 0 && len(v.Y) == 0 }

// P5.1

func TestCoordinateExamples(t *testing.T) {
	for _, c := range []struct {
		a, b int64
		want []uint64
	}{
		{least, greatest, []uint64{1, all}},
		{greatest, least, []uint64{all, 0}},
		{least, least, []uint64{0, 0}},
		{greatest, greatest, []uint64{0, 0}},
		{0, least, []uint64{top, 0}},
		{least, 0, []uint64{top, all}},
		{-1, greatest, []uint64{top, all}},
		{least, 1, []uint64{top - 1, all}},
		{0, 0, []uint64{0, 0}},
		{7, 10, []uint64{all - 2, all}},
		{10, 7, []uint64{3, 0}},
	} {
		if got := diff.Coordinate(c.a, c.b); !slices.Equal(got, c.want) {
			t.Errorf("Coordinate(%d, %d) = %x, want %x", c.a, c.b, got, c.want)
		}
	}
}

func TestCoordinateIsExact(t *testing.T) {
	for _, a := range words {
		for _, b := range words {
			want := new(big.Int).Sub(big.NewInt(a), big.NewInt(b))
			got := diff.Coordinate(a, b)
			if len(got) != 2 || value(got).Cmp(want) != 0 {
				t.Errorf("Coordinate(%d, %d) = %x, want %d", a, b, got, want)
			}
		}
	}
}

func TestBetween(t *testing.T) {
	for _, x := range words {
		for _, y := range words {
			for i := range words {
				a, b := api.Point{X: x, Y: words[i]}, api.Point{X: words[len(words)-1-i], Y: y}
				v := diff.Between(a, b)
				if !slices.Equal(v.X, diff.Coordinate(b.X, a.X)) || !slices.Equal(v.Y, diff.Coordinate(b.Y, a.Y)) {
					t.Errorf("Between(%d, %d) = %x", a, b, v)
				}
			}
		}
	}
}

func TestBetweenExample(t *testing.T) {
	v := diff.Between(api.Point{X: 1, Y: greatest}, api.Point{X: 4, Y: least})
	if !slices.Equal(v.X, []uint64{3, 0}) || !slices.Equal(v.Y, []uint64{1, all}) {
		t.Errorf("Between = %x", v)
	}
}

// P5.2

func TestNegExample(t *testing.T) {
	v := diff.Vector{X: []uint64{1, 0}, Y: []uint64{0, top}}.Neg()
	if !slices.Equal(v.X, []uint64{all, all}) || !slices.Equal(v.Y, []uint64{0, top}) {
		t.Errorf("Neg = %x", v)
	}
}

func TestNegNegatesCoordinates(t *testing.T) {
	for _, v := range append(vectors(), differences()...) {
		got := v.Neg()
		wantX := limbs(new(big.Int).Neg(value(v.X)), 2)
		wantY := limbs(new(big.Int).Neg(value(v.Y)), 2)
		if !slices.Equal(got.X, wantX) || !slices.Equal(got.Y, wantY) {
			t.Errorf("Neg of %x = %x", v, got)
		}
		if back := got.Neg(); !slices.Equal(back.X, v.X) || !slices.Equal(back.Y, v.Y) {
			t.Errorf("Neg of %x = %x, want %x", got, back, v)
		}
	}
}

func TestNegReversesBetween(t *testing.T) {
	for _, x := range words {
		for _, y := range words {
			a, b := api.Point{X: x, Y: y}, api.Point{X: y, Y: least}
			got, want := diff.Between(a, b).Neg(), diff.Between(b, a)
			if !slices.Equal(got.X, want.X) || !slices.Equal(got.Y, want.Y) {
				t.Errorf("Neg of Between(%d, %d) = %x, want %x", a, b, got, want)
			}
		}
	}
}

func TestNegNotVectors(t *testing.T) {
	for _, v := range notVectors() {
		if got := v.Neg(); !isZero(got) {
			t.Errorf("Neg of %x = %x", v, got)
		}
	}
}

// P5.3

func TestProductExamples(t *testing.T) {
	o := api.Point{}
	right, up := diff.Between(o, api.Point{X: 1}), diff.Between(o, api.Point{Y: 1})
	u, v := diff.Between(o, api.Point{X: 3, Y: 4}), diff.Between(o, api.Point{X: -2, Y: 5})
	far := diff.Between(api.Point{X: least, Y: least}, api.Point{X: greatest, Y: greatest})
	lowest := diff.Vector{X: []uint64{0, top}, Y: []uint64{0, top}}
	highest := diff.Vector{X: []uint64{all, top - 1}, Y: []uint64{0, top}}
	for i, c := range []struct{ got, want []uint64 }{
		{diff.Cross(right, up), []uint64{1, 0, 0, 0}},
		{diff.Cross(up, right), []uint64{all, all, all, all}},
		{diff.Cross(right, right), []uint64{0, 0, 0, 0}},
		{diff.Dot(right, up), []uint64{0, 0, 0, 0}},
		{diff.Dot(up, up), []uint64{1, 0, 0, 0}},
		{diff.Cross(u, v), []uint64{23, 0, 0, 0}},
		{diff.Cross(v, u), []uint64{all - 22, all, all, all}},
		{diff.Dot(u, v), []uint64{14, 0, 0, 0}},
		{diff.Dot(u, v.Neg()), []uint64{all - 13, all, all, all}},
		{diff.Norm(u), []uint64{25, 0, 0, 0}},
		{diff.Norm(far), []uint64{2, all - 3, 1, 0}},
		{diff.Cross(lowest, highest), []uint64{0, top, all, top - 1}}, // 2^254 + 2^254 - 2^127
		{diff.Norm(lowest), []uint64{0, 0, 0, top}},                   // 2^255 wraps
	} {
		if !slices.Equal(c.got, c.want) {
			t.Errorf("%d: %x, want %x", i, c.got, c.want)
		}
	}
}

func TestProductsAreCongruent(t *testing.T) {
	l := vectors()
	for _, u := range l {
		a, b := value(u.X), value(u.Y)
		if got, want := diff.Norm(u), limbs(dotOf(a, b, a, b), 4); !slices.Equal(got, want) {
			t.Errorf("Norm of %x = %x, want %x", u, got, want)
		}
		for _, v := range l {
			c, d := value(v.X), value(v.Y)
			if got, want := diff.Cross(u, v), limbs(crossOf(a, b, c, d), 4); !slices.Equal(got, want) {
				t.Errorf("Cross of %x and %x = %x, want %x", u, v, got, want)
			}
			if got, want := diff.Dot(u, v), limbs(dotOf(a, b, c, d), 4); !slices.Equal(got, want) {
				t.Errorf("Dot of %x and %x = %x, want %x", u, v, got, want)
			}
		}
	}
}

func TestProductsOfNotVectors(t *testing.T) {
	vector := diff.Vector{X: []uint64{1, 0}, Y: []uint64{1, 0}}
	for _, v := range notVectors() {
		for _, w := range append(notVectors(), vector) {
			for name, f := range products() {
				if got := f(v, w); len(got) != 0 {
					t.Errorf("%s of %x and %x = %x", name, v, w, got)
				}
			}
		}
		if got := diff.Cross(vector, v); len(got) != 0 {
			t.Errorf("Cross of a vector and %x = %x", v, got)
		}
		if got := diff.Dot(vector, v); len(got) != 0 {
			t.Errorf("Dot of a vector and %x = %x", v, got)
		}
	}
}

// TestIntegersNewlyAllocated changes results, and checks that neither the arguments nor later results change, nor words beyond an argument's length.
func TestIntegersNewlyAllocated(t *testing.T) {
	for name, f := range products() {
		back := slices.Repeat([]uint64{3}, 8)
		u, v := diff.Vector{X: back[:2], Y: back[2:4]}, diff.Vector{X: back[4:6], Y: back[4:6]}
		first := f(u, v)
		want := slices.Clone(first)
		clear(first[:cap(first)])
		if slices.Contains(back, 0) || !slices.Equal(f(u, v), want) {
			t.Errorf("%s shares memory with its arguments or retains it", name)
		}
	}
	first := diff.Coordinate(5, -5)
	clear(first[:cap(first)])
	if got := diff.Coordinate(5, -5); !slices.Equal(got, []uint64{10, 0}) {
		t.Errorf("Coordinate(5, -5) = %x after the change of another result", got)
	}
}

// TestVectorsNewlyAllocated does the same for vectors, whose coordinates share no memory either, even if those of the argument do.
func TestVectorsNewlyAllocated(t *testing.T) {
	back := slices.Repeat([]uint64{3}, 4)
	p := api.Point{X: 4, Y: 4}
	for name, f := range map[string]func() diff.Vector{
		"Between": func() diff.Vector { return diff.Between(p, api.Point{X: 9, Y: 9}) },
		"Neg":     func() diff.Vector { return diff.Vector{X: back[:2], Y: back[:2]}.Neg() },
	} {
		first := f()
		want := slices.Clone(first.Y)
		clear(first.X[:cap(first.X)])
		if !slices.Equal(first.Y, want) {
			t.Errorf("the coordinates that %s returns share memory", name)
		}
		clear(first.Y[:cap(first.Y)])
		again := f()
		if slices.Contains(back, 0) || !slices.Equal(again.X, want) || !slices.Equal(again.Y, want) {
			t.Errorf("%s shares memory with its argument or retains it", name)
		}
	}
}

// P5.4

func TestProductsOfDifferencesAreExact(t *testing.T) {
	l := differences()
	for _, u := range l {
		a, b := value(u.X), value(u.Y)
		if got, want := diff.Norm(u), dotOf(a, b, a, b); value(got).Cmp(want) != 0 {
			t.Errorf("Norm of %x = %x, want %d", u, got, want)
		}
		for _, v := range l {
			c, d := value(v.X), value(v.Y)
			if got, want := diff.Cross(u, v), crossOf(a, b, c, d); value(got).Cmp(want) != 0 {
				t.Errorf("Cross of %x and %x = %x, want %d", u, v, got, want)
			}
			if got, want := diff.Dot(u, v), dotOf(a, b, c, d); value(got).Cmp(want) != 0 {
				t.Errorf("Dot of %x and %x = %x, want %d", u, v, got, want)
			}
		}
	}
}

func TestCrossIsAntisymmetricAndDotSymmetric(t *testing.T) {
	for _, l := range [][]diff.Vector{vectors(), differences()} {
		for _, u := range l {
			for _, v := range l {
				if got, want := diff.Cross(v, u), limb.Neg(diff.Cross(u, v)); !slices.Equal(got, want) {
					t.Errorf("Cross of %x and %x = %x, want %x", v, u, got, want)
				}
				if got, want := diff.Dot(v, u), diff.Dot(u, v); !slices.Equal(got, want) {
					t.Errorf("Dot of %x and %x = %x, want %x", v, u, got, want)
				}
			}
		}
	}
}

func TestSquaresOfProductsAndNorms(t *testing.T) {
	l := differences()
	for _, u := range l {
		for _, v := range l {
			cross, dot := diff.Cross(u, v), diff.Dot(u, v)
			got := limb.Add(limb.Mul(cross, cross), limb.Mul(dot, dot))
			if want := limb.Mul(diff.Norm(u), diff.Norm(v)); !slices.Equal(got, want) {
				t.Errorf("the squares of Cross and Dot of %x and %x add up to %x, want %x", u, v, got, want)
			}
		}
	}
}
