package orient_test

import (
	"math"
	"math/big"
	"slices"
	"testing"

	"geofence/api"
	"geofence/limb"
	"geofence/orient"
)

const (
	all      = 1<<64 - 1
	least    = math.MinInt64
	greatest = math.MaxInt64
)

// triple are three points.
type triple [3]api.Point

func (p triple) value() []uint64 { return orient.Value(p[0], p[1], p[2]) }
func (p triple) sign() int64     { return orient.Sign(p[0], p[1], p[2]) }

func point(x, y int64) api.Point { return api.Point{X: x, Y: y} }

// grid returns all points whose coordinates are ends of the range, their neighbours and those of 0.
func grid() []api.Point {
	words := []int64{least, least + 1, -1, 0, 1, greatest - 1, greatest}
	var l []api.Point
	for _, x := range words {
		for _, y := range words {
			l = append(l, point(x, y))
		}
	}
	return l
}

// triples returns all triples of points of the grid.
func triples() []triple {
	points := grid()
	var l []triple
	for _, a := range points {
		for _, b := range points {
			for _, c := range points {
				l = append(l, triple{a, b, c})
			}
		}
	}
	return l
}

// narrowTriples returns triples with long sides, whose determinants are 1, -1 or 0 nevertheless.
func narrowTriples() []triple {
	var l []triple
	a, b := int64(0), int64(1) // consecutive Fibonacci numbers
	for range 91 {
		a, b = b, a+b
		l = append(l,
			triple{point(0, 0), point(b, a), point(a, b-a)},
			triple{point(-a, -b), point(b-a, a-b), point(0, -a)},
			triple{point(0, 0), point(b, -a), point(-b, a)},
			triple{point(-a, -b), point(0, 0), point(a, b)},
		)
	}
	return l
}

// ordinaryTriples returns triples of points from the whole range.
func ordinaryTriples() []triple {
	x := uint64(2026)
	next := func() int64 {
		x = x*6364136223846793005 + 1442695040888963407
		return int64(x ^ x>>29)
	}
	var l []triple
	for range 2000 {
		l = append(l, triple{point(next(), next()), point(next(), next()), point(next(), next())})
	}
	return l
}

func allTriples() []triple {
	return slices.Concat(triples(), narrowTriples(), ordinaryTriples())
}

// determinant returns that of the matrix whose rows are the coordinates of three points and 1.
func determinant(p triple) *big.Int {
	d := new(big.Int)
	for i := range p {
		from, to := p[i], p[(i+1)%len(p)]
		d.Add(d, product(from.X, to.Y))
		d.Sub(d, product(from.Y, to.X))
	}
	return d
}

func product(a, b int64) *big.Int { return new(big.Int).Mul(big.NewInt(a), big.NewInt(b)) }

// value returns the value of the integer a.
func value(a []uint64) *big.Int {
	v := new(big.Int)
	for _, x := range slices.Backward(a) {
		v.Lsh(v, 64).Add(v, new(big.Int).SetUint64(x))
	}
	if len(a) > 0 && a[len(a)-1]>>63 == 1 {
		v.Sub(v, new(big.Int).Lsh(big.NewInt(1), uint(64*len(a))))
	}
	return v
}

func of(holds bool) uint64 {
	if holds {
		return all
	}
	return 0
}

// P6.1

func TestWidth(t *testing.T) {
	if orient.Width != 3 {
		t.Errorf("Width = %d", orient.Width)
	}
}

func TestValueExamples(t *testing.T) {
	for _, c := range []struct {
		points triple
		want   []uint64
	}{
		{triple{point(0, 0), point(1, 0), point(0, 1)}, []uint64{1, 0, 0}},
		{triple{point(0, 0), point(0, 1), point(1, 0)}, []uint64{all, all, all}},
		{triple{point(0, 0), point(3, 4), point(-2, 5)}, []uint64{23, 0, 0}},
		{triple{point(10, 20), point(13, 24), point(8, 25)}, []uint64{23, 0, 0}},
		{triple{point(7, 7), point(7, 7), point(7, 7)}, []uint64{0, 0, 0}},
		// The greatest and the least determinant, (2^64 - 1)^2 and its negation, need more than two limbs with a sign.
		{triple{point(least, least), point(greatest, least), point(greatest, greatest)}, []uint64{1, all - 1, 0}},
		{triple{point(least, least), point(greatest, greatest), point(greatest, least)}, []uint64{all, 1, all}},
		{triple{point(least, least), point(greatest, least), point(least, least+1)}, []uint64{all, 0, 0}},
		{triple{point(least, greatest), point(0, 0), point(greatest, least)}, []uint64{1, all, all}},
		{triple{point(least, greatest), point(0, 0), point(greatest, greatest)}, []uint64{1<<63 + 1, 1<<63 - 2, 0}},
	} {
		if got := c.points.value(); !slices.Equal(got, c.want) {
			t.Errorf("Value of %d = %x, want %x", c.points, got, c.want)
		}
	}
}

func TestValueIsExact(t *testing.T) {
	for _, p := range allTriples() {
		got := p.value()
		if want := determinant(p); len(got) != orient.Width || value(got).Cmp(want) != 0 {
			t.Errorf("Value of %d = %x, want %d", p, got, want)
		}
	}
}

// TestValueNewlyAllocated changes a result, and checks that no other result changes.
func TestValueNewlyAllocated(t *testing.T) {
	p := triple{point(0, 0), point(3, 4), point(-2, 5)}
	first, second := p.value(), p.value()
	clear(first[:cap(first)])
	for _, got := range [][]uint64{second, p.value()} {
		if !slices.Equal(got, []uint64{23, 0, 0}) {
			t.Errorf("Value of %d = %x after the change of another result", p, got)
		}
	}
}

// P6.2

func TestSignExamples(t *testing.T) {
	for _, c := range []struct {
		points triple
		want   int64
	}{
		{triple{point(0, 0), point(1, 0), point(0, 1)}, 1},
		{triple{point(1<<62, 1<<62), point(1<<62+1, 1<<62), point(1<<62, 1<<62+1)}, 1},
		{triple{point(0, 0), point(0, 1), point(1, 0)}, -1},
		{triple{point(0, 0), point(1<<62, 1<<62), point(least, least)}, 0},
		{triple{point(0, 0), point(1<<62, 1<<62), point(least, least+1)}, 1},
		{triple{point(0, 0), point(1<<62, 1<<62), point(least+1, least)}, -1},
		{triple{point(1, 1), point(2, 2), point(3, 3)}, 0},
		{triple{point(5, 5), point(5, 5), point(1, 2)}, 0},
		{triple{point(1, 2), point(5, 5), point(5, 5)}, 0},
		{triple{point(5, 5), point(1, 2), point(5, 5)}, 0},
		{triple{point(5, 5), point(5, 5), point(5, 5)}, 0},
		{triple{point(least, least), point(greatest, greatest), point(0, 0)}, 0},
		{triple{point(least, least), point(greatest, greatest), point(0, 1)}, 1},
		{triple{point(least, least), point(greatest, greatest), point(1, 0)}, -1},
		{triple{point(least, least), point(greatest, least), point(greatest, greatest)}, 1},
		{triple{point(greatest, greatest), point(greatest, least), point(least, least)}, -1},
		{triple{point(least, 3), point(greatest, 3), point(0, 3)}, 0},
		{triple{point(least, 3), point(greatest, 4), point(0, 3)}, -1},
		{triple{point(3, least), point(3, 0), point(3, greatest)}, 0},
		{triple{point(3, least), point(4, 0), point(3, greatest)}, 1},
	} {
		if got := c.points.sign(); got != c.want {
			t.Errorf("Sign of %d = %d, want %d", c.points, got, c.want)
		}
	}
}

func TestSignIsExact(t *testing.T) {
	for _, p := range allTriples() {
		if got, want := p.sign(), int64(determinant(p).Sign()); got != want {
			t.Errorf("Sign of %d = %d, want %d", p, got, want)
		}
	}
}

// P6.3

func TestLeftAndCollinearExamples(t *testing.T) {
	for _, c := range []struct {
		points          triple
		left, collinear uint64
	}{
		{triple{point(0, 0), point(1, 0), point(0, 1)}, all, 0},
		{triple{point(0, 0), point(0, 1), point(1, 0)}, 0, 0},
		{triple{point(0, 0), point(1<<62, 1<<62), point(least, least)}, 0, all},
		{triple{point(2, 3), point(2, 3), point(2, 3)}, 0, all},
		{triple{point(2, 3), point(2, 3), point(9, 4)}, 0, all},
		{triple{point(least, least), point(greatest, greatest), point(least, greatest)}, all, 0},
		{triple{point(least, least), point(greatest, greatest), point(greatest, least)}, 0, 0},
		{triple{point(least, least), point(greatest, greatest), point(-1, -1)}, 0, all},
	} {
		p := c.points
		if got := orient.Left(p[0], p[1], p[2]); got != c.left {
			t.Errorf("Left of %d = %x, want %x", p, got, c.left)
		}
		if got := orient.Collinear(p[0], p[1], p[2]); got != c.collinear {
			t.Errorf("Collinear of %d = %x, want %x", p, got, c.collinear)
		}
	}
}

func TestLeftAndCollinearAreMasks(t *testing.T) {
	for _, p := range allTriples() {
		orientation := determinant(p).Sign()
		if got, want := orient.Left(p[0], p[1], p[2]), of(orientation == 1); got != want {
			t.Errorf("Left of %d = %x, want %x", p, got, want)
		}
		if got, want := orient.Collinear(p[0], p[1], p[2]), of(orientation == 0); got != want {
			t.Errorf("Collinear of %d = %x, want %x", p, got, want)
		}
	}
}

// P6.4

func TestExchangeAndRotation(t *testing.T) {
	for _, p := range allTriples() {
		a, b, c := p[0], p[1], p[2]
		want := p.value()
		for _, rotated := range []triple{{b, c, a}, {c, a, b}} {
			if got := rotated.value(); !slices.Equal(got, want) {
				t.Errorf("Value of %d = %x, want %x", rotated, got, want)
			}
		}
		want = limb.Neg(want)
		for _, exchanged := range []triple{{b, a, c}, {c, b, a}, {a, c, b}} {
			if got := exchanged.value(); !slices.Equal(got, want) {
				t.Errorf("Value of %d = %x, want %x", exchanged, got, want)
			}
		}
	}
}

// translated returns p moved by the given offset, and whether all of its coordinates remain in the range.
func translated(p triple, by api.Point) (triple, bool) {
	inRange := func(x, d int64) bool { return (x+d >= x) == (d >= 0) }
	for i, from := range p {
		if !inRange(from.X, by.X) || !inRange(from.Y, by.Y) {
			return triple{}, false
		}
		p[i] = point(from.X+by.X, from.Y+by.Y)
	}
	return p, true
}

func TestTranslation(t *testing.T) {
	l := allTriples()
	for _, by := range []api.Point{{X: 1, Y: -1}, {X: -1}, {X: 1 << 62, Y: 1 << 62}, {X: -1 << 62, Y: 12345}, {X: greatest - 1, Y: least + 1}} {
		var moved int
		for _, p := range l {
			q, ok := translated(p, by)
			if !ok {
				continue
			}
			moved++
			if got, want := q.value(), p.value(); !slices.Equal(got, want) {
				t.Errorf("Value of %d = %x, want %x as for %d", q, got, want, p)
			}
		}
		if moved == 0 {
			t.Errorf("no points could be moved by %d", by)
		}
	}
}

func TestDeterminantsWithFourthPointAddUp(t *testing.T) {
	points := grid()
	for i, p := range allTriples() {
		a, b, c := p[0], p[1], p[2]
		for j := range 3 {
			d := points[(i+17*j)%len(points)]
			got := limb.Add(limb.Add(orient.Value(a, b, d), orient.Value(b, c, d)), orient.Value(c, a, d))
			if want := p.value(); !slices.Equal(got, want) {
				t.Errorf("the determinants of %d and %d add up to %x, want %x", p, d, got, want)
			}
		}
	}
}
