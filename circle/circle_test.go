package circle_test

import (
	"math"
	"math/big"
	"slices"
	"testing"

	"geofence/api"
	"geofence/circle"
	"geofence/limb"
	"geofence/orient"
)

const (
	all      = 1<<64 - 1
	top      = 1 << 63
	least    = math.MinInt64
	greatest = math.MaxInt64
)

// quadruple are four points, of which the last one is compared with the circle through the others.
type quadruple [4]api.Point

func (p quadruple) value() []uint64 { return circle.Value(p[0], p[1], p[2], p[3]) }
func (p quadruple) sign() int64     { return circle.Sign(p[0], p[1], p[2], p[3]) }
func (p quadruple) side() int64     { return circle.Side(p[0], p[1], p[2], p[3]) }

// exchanged returns p with two of its points exchanged.
func (p quadruple) exchanged(i, j int) quadruple {
	p[i], p[j] = p[j], p[i]
	return p
}

func point(x, y int64) api.Point { return api.Point{X: x, Y: y} }

// numbers returns a function that returns another number from the whole range at each call, and the same ones for the same seed.
func numbers(seed uint64) func() int64 {
	x := seed
	return func() int64 {
		x = x*6364136223846793005 + 1442695040888963407
		return int64(x ^ x>>29)
	}
}

// grid returns all points with the given coordinates.
func grid(coordinates ...int64) []api.Point {
	var l []api.Point
	for _, x := range coordinates {
		for _, y := range coordinates {
			l = append(l, point(x, y))
		}
	}
	return l
}

// quadruplesOf returns all quadruples of some points.
func quadruplesOf(points []api.Point) []quadruple {
	var l []quadruple
	for _, a := range points {
		for _, b := range points {
			for _, c := range points {
				for _, d := range points {
					l = append(l, quadruple{a, b, c, d})
				}
			}
		}
	}
	return l
}

// extremeQuadruples returns quadruples of points whose coordinates are ends of the range, their neighbours and those of 0.
func extremeQuadruples() []quadruple {
	points := grid(least, least+1, -1, 0, 1, greatest-1, greatest)
	next := numbers(7)
	pick := func() api.Point { return points[uint64(next())%uint64(len(points))] }
	l := quadruplesOf(grid(least, 0, greatest))
	for range 4000 {
		l = append(l, quadruple{pick(), pick(), pick(), pick()})
	}
	return l
}

// ordinaryQuadruples returns quadruples of points from the whole range.
func ordinaryQuadruples() []quadruple {
	next := numbers(2026)
	pick := func() api.Point { return point(next(), next()) }
	var l []quadruple
	for range 2000 {
		l = append(l, quadruple{pick(), pick(), pick(), pick()})
	}
	return l
}

// onCircle returns the points of whole coordinates on the circle around (0, 0) whose radius is 5 to the power of k.
func onCircle(k int) []api.Point {
	// As complex numbers, they are products of 2k factors 2 + i or 2 - i, whose squared absolute values are 5.
	var l []api.Point
	for turns := range 2*k + 1 {
		p := point(1, 0)
		for j := range 2 * k {
			i := int64(1)
			if j < turns {
				i = -1
			}
			p = point(2*p.X-i*p.Y, 2*p.Y+i*p.X)
		}
		l = append(l, p, point(-p.Y, p.X), point(-p.X, -p.Y), point(p.Y, -p.X))
	}
	return l
}

// circleQuadruples returns quadruples of three points on a circle around (0, 0) and one on it or next to it.
func circleQuadruples() []quadruple {
	next := numbers(5)
	var l []quadruple
	for k := 1; k <= 27; k++ {
		points := onCircle(k)
		pick := func() api.Point { return points[uint64(next())%uint64(len(points))] }
		for range 15 {
			a, b, c, d := pick(), pick(), pick(), pick()
			if a == b || b == c || c == a {
				continue
			}
			for _, by := range grid(-1, 0, 1) {
				l = append(l, quadruple{a, b, c, point(d.X+by.X, d.Y+by.Y)})
			}
		}
	}
	return l
}

// flatQuadruples returns quadruples whose first three points are collinear.
func flatQuadruples() []quadruple {
	lines := [][3]api.Point{
		{point(1, 1), point(1, 1), point(1, 1)},
		{point(least, 3), point(least, 3), point(7, greatest)},
		{point(0, 0), point(1, 1), point(2, 2)},
		{point(least, least), point(0, 0), point(greatest, greatest)},
		{point(least, 5), point(-4, 5), point(greatest, 5)},
		{point(-9, greatest), point(-9, 2), point(-9, least)},
		{point(0, 0), point(1<<62, -1<<61), point(least, 1<<62)},
	}
	var l []quadruple
	for _, p := range lines {
		for _, d := range grid(least, -1, 0, 1, 2, greatest) {
			l = append(l, quadruple{p[0], p[1], p[2], d}, quadruple{p[1], p[2], p[0], d}, quadruple{p[2], p[1], p[0], d})
		}
	}
	return l
}

func allQuadruples() []quadruple {
	return slices.Concat(quadruplesOf(grid(0, 1, 2)), extremeQuadruples(), ordinaryQuadruples(), circleQuadruples(), flatQuadruples())
}

// lifted returns the determinant of the matrix of four rows, as the chapter defines it.
func lifted(p quadruple) *big.Int {
	var rows [][]*big.Int
	for _, q := range p {
		rows = append(rows, []*big.Int{big.NewInt(q.X), big.NewInt(q.Y), squares(q), big.NewInt(1)})
	}
	return determinant(rows)
}

// squares returns the sum of the squares of the coordinates of p.
func squares(p api.Point) *big.Int {
	x, y := big.NewInt(p.X), big.NewInt(p.Y)
	return new(big.Int).Add(x.Mul(x, x), y.Mul(y, y))
}

// determinant returns that of a matrix, expanded along the first column.
func determinant(rows [][]*big.Int) *big.Int {
	if len(rows) == 1 {
		return rows[0][0]
	}
	d := new(big.Int)
	for i, row := range rows {
		var minor [][]*big.Int
		for j, other := range rows {
			if j != i {
				minor = append(minor, other[1:])
			}
		}
		part := new(big.Int).Mul(row[0], determinant(minor))
		if i%2 == 1 {
			part.Neg(part)
		}
		d.Add(d, part)
	}
	return d
}

// orientation returns the sign of the determinant of the first three points.
func orientation(p quadruple) int {
	var rows [][]*big.Int
	for _, q := range p[:3] {
		rows = append(rows, []*big.Int{big.NewInt(q.X), big.NewInt(q.Y), big.NewInt(1)})
	}
	return determinant(rows).Sign()
}

// value returns the value of the integer a.
func value(a []uint64) *big.Int {
	v := new(big.Int)
	for _, x := range slices.Backward(a) {
		v.Lsh(v, 64).Add(v, new(big.Int).SetUint64(x))
	}
	if len(a) > 0 && a[len(a)-1] >= top {
		v.Sub(v, new(big.Int).Lsh(big.NewInt(1), uint(64*len(a))))
	}
	return v
}

// P7.1

func TestWidth(t *testing.T) {
	if circle.Width != 5 {
		t.Errorf("Width = %d", circle.Width)
	}
}

func TestValueExamples(t *testing.T) {
	for _, c := range []struct {
		points quadruple
		want   []uint64
	}{
		{quadruple{point(0, 0), point(2, 0), point(0, 2), point(1, 1)}, []uint64{8, 0, 0, 0, 0}},
		{quadruple{point(0, 0), point(2, 0), point(1, 1), point(0, 2)}, []uint64{all - 7, all, all, all, all}},
		{quadruple{point(0, 0), point(2, 0), point(0, 2), point(2, 2)}, []uint64{0, 0, 0, 0, 0}},
		{quadruple{point(0, 0), point(2, 0), point(0, 2), point(3, 0)}, []uint64{all - 11, all, all, all, all}},
		{quadruple{point(1, 0), point(0, 1), point(-1, 0), point(0, 0)}, []uint64{2, 0, 0, 0, 0}},
		{quadruple{point(5, 5), point(5, 5), point(5, 5), point(5, 5)}, []uint64{0, 0, 0, 0, 0}},
		{quadruple{point(0, 0), point(1, 0), point(2, 0), point(0, 1)}, []uint64{2, 0, 0, 0, 0}},
		// With s = 2^64 - 1, the circle through three corners of the plane has the centre (-1/2, -1/2) and the squared radius s * s / 2,
		// so the determinant is s * s * (s * s - 1) / 2 at (0, 0).
		{quadruple{point(least, least), point(greatest, least), point(greatest, greatest), point(0, 0)}, []uint64{0, top - 1, 2, top - 2, 0}},
		{quadruple{point(least, least), point(greatest, greatest), point(greatest, least), point(0, 0)}, []uint64{0, top + 1, all - 2, top + 1, all}},
		{quadruple{point(least, least), point(greatest, least), point(greatest, greatest), point(least, greatest)}, []uint64{0, 0, 0, 0, 0}},
	} {
		if got := c.points.value(); !slices.Equal(got, c.want) {
			t.Errorf("Value of %d = %x, want %x", c.points, got, c.want)
		}
	}
}

func TestValueAndSignAreExact(t *testing.T) {
	for _, p := range allQuadruples() {
		want := lifted(p)
		if got := p.value(); len(got) != circle.Width || value(got).Cmp(want) != 0 {
			t.Errorf("Value of %d = %x, want %d", p, got, want)
		}
		if got := p.sign(); got != int64(want.Sign()) {
			t.Errorf("Sign of %d = %d, want %d", p, got, want.Sign())
		}
	}
}

func TestSignExamples(t *testing.T) {
	for _, c := range []struct {
		points quadruple
		want   int64
	}{
		{quadruple{point(0, 0), point(2, 0), point(0, 2), point(1, 1)}, 1},
		{quadruple{point(0, 0), point(0, 2), point(2, 0), point(1, 1)}, -1},
		{quadruple{point(0, 0), point(2, 0), point(0, 2), point(2, 2)}, 0},
		{quadruple{point(0, 0), point(2, 0), point(0, 2), point(3, 0)}, -1},
		{quadruple{point(0, 0), point(0, 2), point(2, 0), point(3, 0)}, 1},
		{quadruple{point(0, 0), point(1, 0), point(2, 0), point(0, 1)}, 1},
		{quadruple{point(0, 0), point(1, 0), point(2, 0), point(0, -1)}, -1},
		{quadruple{point(0, 0), point(1, 0), point(2, 0), point(3, 0)}, 0},
		{quadruple{point(1, 2), point(3, 4), point(6, 5), point(3, 4)}, 0},
		{quadruple{point(1, 2), point(1, 2), point(6, 5), point(3, 4)}, 0},
		{quadruple{point(least, least), point(greatest, least), point(greatest, greatest), point(least, greatest)}, 0},
		{quadruple{point(least, least), point(greatest, least), point(greatest, greatest), point(least, greatest-1)}, 1},
		{quadruple{point(least, least), point(greatest, least), point(greatest-1, greatest), point(least, greatest)}, -1},
	} {
		if got := c.points.sign(); got != c.want {
			t.Errorf("Sign of %d = %d, want %d", c.points, got, c.want)
		}
	}
}

// TestValueNewlyAllocated changes a result, and checks that no other result changes.
func TestValueNewlyAllocated(t *testing.T) {
	for _, p := range []quadruple{
		{point(0, 0), point(2, 0), point(0, 2), point(1, 1)},
		{point(3, 3), point(3, 3), point(3, 3), point(3, 3)},
	} {
		first, second := p.value(), p.value()
		want := slices.Clone(first)
		for i := range first[:cap(first)] {
			first[:cap(first)][i] = 77
		}
		for _, got := range [][]uint64{second, p.value()} {
			if !slices.Equal(got, want) {
				t.Errorf("Value of %d = %x after the change of another result", p, got)
			}
		}
	}
}

// P7.2

func TestSideExamples(t *testing.T) {
	for _, c := range []struct {
		points quadruple
		want   int64
	}{
		{quadruple{point(0, 0), point(2, 0), point(0, 2), point(1, 1)}, 1},
		{quadruple{point(0, 0), point(0, 2), point(2, 0), point(1, 1)}, 1},
		{quadruple{point(0, 0), point(2, 0), point(0, 2), point(2, 2)}, 0},
		{quadruple{point(0, 0), point(2, 0), point(0, 2), point(0, 2)}, 0},
		{quadruple{point(0, 0), point(2, 0), point(0, 2), point(3, 0)}, -1},
		{quadruple{point(0, 0), point(0, 2), point(2, 0), point(3, 0)}, -1},
		{quadruple{point(5, 0), point(3, 4), point(-4, 3), point(0, -5)}, 0},
		{quadruple{point(5, 0), point(3, 4), point(-4, 3), point(0, -4)}, 1},
		{quadruple{point(5, 0), point(3, 4), point(-4, 3), point(0, -6)}, -1},
		{quadruple{point(least, least), point(greatest, least), point(greatest, greatest), point(least, greatest)}, 0},
		{quadruple{point(least, least), point(greatest, greatest), point(greatest, least), point(least, greatest-1)}, 1},
		{quadruple{point(least+1, least), point(greatest, least), point(greatest, greatest), point(least, greatest)}, -1},
		// A flat triangle, whose circle is greater than the plane.
		{quadruple{point(least, 0), point(0, 1), point(greatest, 0), point(0, least)}, 1},
		{quadruple{point(least, 0), point(0, 1), point(greatest, 0), point(0, 2)}, -1},
	} {
		if got := c.points.side(); got != c.want {
			t.Errorf("Side of %d = %d, want %d", c.points, got, c.want)
		}
	}
}

// TestSideOfCircle compares squared distances from the centre (0, 0).
func TestSideOfCircle(t *testing.T) {
	var found [3]int
	for _, p := range circleQuadruples() {
		want := squares(p[0]).Cmp(squares(p[3]))
		found[want+1]++
		if got := p.side(); got != int64(want) {
			t.Errorf("Side of %d = %d, want %d", p, got, want)
		}
	}
	if slices.Contains(found[:], 0) {
		t.Errorf("there are %d points outside, on and inside of circles", found)
	}
}

func TestSideOfCollinearPointsIsZero(t *testing.T) {
	var others int
	for _, p := range flatQuadruples() {
		if p.sign() != 0 {
			others++
		}
		if got := p.side(); got != 0 {
			t.Errorf("Side of %d = %d, want 0", p, got)
		}
	}
	if others == 0 {
		t.Error("all lifted determinants of collinear points are 0")
	}
}

func TestSideIsProductOfSigns(t *testing.T) {
	for _, p := range allQuadruples() {
		if got, want := p.side(), int64(lifted(p).Sign()*orientation(p)); got != want {
			t.Errorf("Side of %d = %d, want %d", p, got, want)
		}
		if got, want := p.side(), p.sign()*orient.Sign(p[0], p[1], p[2]); got != want {
			t.Errorf("Side of %d = %d, want the product %d", p, got, want)
		}
	}
}

// P7.3

func TestExchangeNegates(t *testing.T) {
	for _, p := range allQuadruples() {
		want := limb.Neg(p.value())
		for i := range p {
			for j := range i {
				q := p.exchanged(i, j)
				if got := q.value(); !slices.Equal(got, want) {
					t.Errorf("Value of %d = %x, want %x", q, got, want)
				}
			}
		}
	}
}

// translated returns p moved by the given offset, and whether all of its coordinates remain in the range.
func translated(p quadruple, by api.Point) (quadruple, bool) {
	inRange := func(x, d int64) bool { return (x+d >= x) == (d >= 0) }
	for i, from := range p {
		if !inRange(from.X, by.X) || !inRange(from.Y, by.Y) {
			return quadruple{}, false
		}
		p[i] = point(from.X+by.X, from.Y+by.Y)
	}
	return p, true
}

func TestTranslation(t *testing.T) {
	l := allQuadruples()
	for _, by := range []api.Point{{X: 1, Y: -1}, {X: -1}, {X: 1 << 62, Y: 1 << 62}, {X: -1 << 62, Y: 12345}, {X: greatest - 2, Y: least + 1}} {
		var moved int
		for _, p := range l {
			q, ok := translated(p, by)
			if !ok {
				continue
			}
			moved++
			if got, want := q.value(), p.value(); !slices.Equal(got, want) {
				t.Errorf("Value of %d = %x, want %x as for %d", q, got, want, p)
			}
			if got, want := q.side(), p.side(); got != want {
				t.Errorf("Side of %d = %d, want %d as for %d", q, got, want, p)
			}
		}
		if moved == 0 {
			t.Errorf("no points could be moved by %d", by)
		}
	}
}

func TestSideDoesNotDependOnOrder(t *testing.T) {
	for _, p := range allQuadruples() {
		a, b, c, d := p[0], p[1], p[2], p[3]
		want := p.side()
		for _, q := range []quadruple{{a, c, b, d}, {b, a, c, d}, {b, c, a, d}, {c, a, b, d}, {c, b, a, d}} {
			if got := q.side(); got != want {
				t.Errorf("Side of %d = %d, want %d", q, got, want)
			}
		}
	}
}
