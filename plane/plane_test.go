package plane_test

import (
	"math"
	"math/big"
	"testing"

	"geofence/api"
	"geofence/orient"
	"geofence/plane"
)

const (
	small    = 1 << 24
	exact    = 1 << 53
	least    = math.MinInt64
	greatest = math.MaxInt64
)

// edges are coordinates of small points, at the bounds and next to zero.
var edges = []int64{-small, -small + 1, -1, 0, 1, 3, small - 1, small}

// outside are coordinates that are not small, some of which are small if their upper bits are cut off, or if they are converted to float64 with less precision.
var outside = []int64{least, least + 1, -exact, -1 << 32, -1<<32 - 1, -small - 1, small + 1, 1 << 32, 1<<32 + 1, exact + 1, 1 << 62, greatest}

// zero is what functions return together with an error.
var zero api.Point

func point(x, y int64) api.Point { return api.Point{X: x, Y: y} }

// numbers returns a function that returns another number from -bound to bound at each call, and the same ones for the same seed.
func numbers(seed uint64, bound int64) func() int64 {
	x := seed
	return func() int64 {
		x = x*6364136223846793005 + 1442695040888963407
		return int64((x^x>>29)%uint64(2*bound+1)) - bound
	}
}

// grid returns all points with the given coordinates.
func grid(coordinates []int64) []api.Point {
	var l []api.Point
	for _, x := range coordinates {
		for _, y := range coordinates {
			l = append(l, point(x, y))
		}
	}
	return l
}

// smallPoints returns small points: all with coordinates at the edges, and ordinary ones.
func smallPoints() []api.Point {
	l := grid(edges)
	next := numbers(9, small)
	for range 200 {
		l = append(l, point(next(), next()))
	}
	return l
}

// largePoints returns points of which one coordinate or both are not small.
func largePoints() []api.Point {
	l := grid(outside)
	for _, x := range outside {
		for _, y := range edges {
			l = append(l, point(x, y), point(y, x))
		}
	}
	return l
}

// times returns the product of two numbers.
func times(x, y int64) *big.Int { return new(big.Int).Mul(big.NewInt(x), big.NewInt(y)) }

// isPoint reports whether the coordinates of a point are the given numbers.
func isPoint(p api.Point, x, y *big.Int) bool {
	return big.NewInt(p.X).Cmp(x) == 0 && big.NewInt(p.Y).Cmp(y) == 0
}

// P9.1

func TestIsSmall(t *testing.T) {
	for _, p := range smallPoints() {
		if !plane.IsSmall(p) {
			t.Errorf("IsSmall(%v) is false", p)
		}
	}
	for _, p := range largePoints() {
		if plane.IsSmall(p) {
			t.Errorf("IsSmall(%v) is true", p)
		}
	}
}

func TestComplexOfSmallPoints(t *testing.T) {
	for _, p := range smallPoints() {
		z := plane.Complex(p)
		if int64(real(z)) != p.X || int64(imag(z)) != p.Y || real(z) != math.Trunc(real(z)) || imag(z) != math.Trunc(imag(z)) {
			t.Errorf("Complex(%v) = %v", p, z)
		}
	}
	if z := plane.Complex(zero); math.Signbit(real(z)) || math.Signbit(imag(z)) {
		t.Error("Complex of the origin has a negative zero")
	}
}

func TestComplexIsRounded(t *testing.T) {
	l := append(largePoints(), point(exact+1, exact+3), point(-exact-1, -exact-3), point(greatest-511, greatest-512))
	for _, p := range l {
		x, _ := new(big.Float).SetInt64(p.X).Float64()
		y, _ := new(big.Float).SetInt64(p.Y).Float64()
		if z := plane.Complex(p); real(z) != x || imag(z) != y {
			t.Errorf("Complex(%v) = %v, want %v and %v", p, z, x, y)
		}
	}
}

// P9.2

func TestPointOfIntegers(t *testing.T) {
	whole := []int64{-exact, -exact + 1, -1 << 52, -small, -1, 0, 1, 2, small + 1, 1<<52 + 1, exact - 1, exact}
	next := numbers(53, exact)
	for range 50 {
		whole = append(whole, next())
	}
	for _, want := range grid(whole) {
		p, errno := plane.Point(complex(float64(want.X), float64(want.Y)))
		if p != want || errno != api.OK {
			t.Errorf("Point of %v = %v, %v", want, p, errno)
		}
		if p, errno := plane.Point(plane.Complex(want)); p != want || errno != api.OK {
			t.Errorf("Point of Complex(%v) = %v, %v", want, p, errno)
		}
	}
}

func TestPointOfNegativeZero(t *testing.T) {
	negative := math.Copysign(0, -1)
	for _, z := range []complex128{complex(negative, negative), complex(negative, 0), complex(0, negative)} {
		if p, errno := plane.Point(z); p != zero || errno != api.OK {
			t.Errorf("Point(%v) = %v, %v", z, p, errno)
		}
	}
}

func TestPointOutOfRange(t *testing.T) {
	wrong := []float64{0.5, 1.5, exact/2 - 0.5, 1 - 0x1p-53, 0x1p-1000, math.SmallestNonzeroFloat64, exact + 2, 1 << 63, 1 << 64, 1e300, math.MaxFloat64, math.Inf(1), math.NaN()}
	for _, x := range wrong {
		for _, part := range []float64{x, -x} {
			for _, z := range []complex128{complex(part, 0), complex(0, part), complex(part, 7), complex(7, part), complex(part, part)} {
				if p, errno := plane.Point(z); p != zero || errno != api.ErrRange {
					t.Errorf("Point(%v) = %v, %v", z, p, errno)
				}
			}
		}
	}
}

// P9.3

// sign returns the sign of the determinant of the rows (X, Y, 1) of three points.
func sign(a, b, c api.Point) int64 {
	sum := new(big.Int)
	for _, pair := range [][2]api.Point{{a, b}, {b, c}, {c, a}} {
		sum.Add(sum, times(pair[0].X, pair[1].Y))
		sum.Sub(sum, times(pair[1].X, pair[0].Y))
	}
	return int64(sum.Sign())
}

func TestOrientExamples(t *testing.T) {
	for _, c := range []struct {
		a, b, c api.Point
		want    int64
	}{
		{point(0, 0), point(1, 0), point(0, 1), 1},
		{point(0, 0), point(0, 1), point(1, 0), -1},
		{point(0, 0), point(1, 1), point(2, 2), 0},
		{point(0, 0), point(0, 0), point(2, 2), 0},
		{point(5, 7), point(5, 7), point(5, 7), 0},
		{point(-small, -small), point(small, small), point(0, 0), 0},
		{point(-small, -small), point(small, small), point(0, 1), 1},
		{point(-small, -small), point(small, small), point(0, -1), -1},
		{point(-small, -small), point(small, small-1), point(small-1, small-1), 1},
		{point(-small, -small), point(small, small-1), point(small-1, small-2), -1},
	} {
		if got, errno := plane.Orient(c.a, c.b, c.c); got != c.want || errno != api.OK {
			t.Errorf("Orient(%v, %v, %v) = %d, %v, want %d", c.a, c.b, c.c, got, errno, c.want)
		}
	}
}

func TestOrientIsExact(t *testing.T) {
	counts := map[int64]int{}
	check := func(a, b, c api.Point) {
		got, errno := plane.Orient(a, b, c)
		if want := sign(a, b, c); got != want || errno != api.OK || got != orient.Sign(a, b, c) {
			t.Errorf("Orient(%v, %v, %v) = %d, %v, want %d", a, b, c, got, errno, want)
		}
		counts[got]++
	}
	extreme := grid([]int64{-small, -small + 1, 0, small - 1, small})
	for _, a := range extreme {
		for _, b := range extreme {
			for _, c := range extreme {
				check(a, b, c)
			}
		}
	}
	next := numbers(3, small)
	for range 5000 {
		a, b := point(next(), next()), point(next(), next())
		check(a, b, point(next(), next()))
		middle := point((a.X+b.X)/2, (a.Y+b.Y)/2)
		check(a, b, middle)
		check(a, middle, b)
	}
	for s := int64(-1); s <= 1; s++ {
		if counts[s] < 500 {
			t.Errorf("only %d triples of points have the orientation %d", counts[s], s)
		}
	}
}

func TestOrientOutOfRange(t *testing.T) {
	b, c := point(1, 0), point(0, small)
	for _, p := range largePoints() {
		for _, l := range [][3]api.Point{{p, b, c}, {b, p, c}, {b, c, p}, {p, p, b}, {p, p, p}} {
			if s, errno := plane.Orient(l[0], l[1], l[2]); s != 0 || errno != api.ErrRange {
				t.Errorf("Orient of %v = %d, %v", l, s, errno)
			}
		}
	}
}

// P9.4

func TestProductExamples(t *testing.T) {
	for _, c := range []struct{ a, b, want api.Point }{
		{point(1, 2), point(3, -1), point(5, 5)},
		{point(0, 1), point(0, 1), point(-1, 0)},
		{point(1, 0), point(-7, 9), point(-7, 9)},
		{point(0, 0), point(-7, 9), point(0, 0)},
		{point(small, small), point(small, -small), point(1<<49, 0)},
		{point(-small, small), point(small, small), point(-1<<49, 0)},
		{point(small, small-1), point(small-1, small), point(0, 1<<49-1<<25+1)},
	} {
		for _, f := range [][2]api.Point{{c.a, c.b}, {c.b, c.a}} {
			if got, errno := plane.Product(f[0], f[1]); got != c.want || errno != api.OK {
				t.Errorf("Product(%v, %v) = %v, %v, want %v", f[0], f[1], got, errno, c.want)
			}
		}
	}
}

func TestProductIsExact(t *testing.T) {
	points := smallPoints()
	for _, a := range points {
		for _, b := range points {
			x := new(big.Int).Sub(times(a.X, b.X), times(a.Y, b.Y))
			y := new(big.Int).Add(times(a.X, b.Y), times(a.Y, b.X))
			if got, errno := plane.Product(a, b); !isPoint(got, x, y) || errno != api.OK {
				t.Errorf("Product(%v, %v) = %v, %v, want %v and %v", a, b, got, errno, x, y)
			}
		}
	}
}

func TestProductOutOfRange(t *testing.T) {
	for _, p := range largePoints() {
		for _, l := range [][2]api.Point{{p, point(0, 0)}, {point(0, 0), p}, {p, point(1, 0)}, {point(1, 0), p}, {p, p}} {
			if got, errno := plane.Product(l[0], l[1]); got != zero || errno != api.ErrRange {
				t.Errorf("Product of %v = %v, %v", l, got, errno)
			}
		}
	}
}

// turnedOnce returns a point multiplied by the imaginary unit, and turnedBack by its reciprocal.
func turnedOnce(p api.Point) api.Point { return point(-p.Y, p.X) }
func turnedBack(p api.Point) api.Point { return point(p.Y, -p.X) }

func TestTurn(t *testing.T) {
	for _, p := range smallPoints() {
		forward, back := p, p
		for k := range 12 {
			if got, errno := plane.Turn(p, k); got != forward || errno != api.OK {
				t.Errorf("Turn(%v, %d) = %v, %v, want %v", p, k, got, errno, forward)
			}
			if got, errno := plane.Turn(p, -k); got != back || errno != api.OK {
				t.Errorf("Turn(%v, %d) = %v, %v, want %v", p, -k, got, errno, back)
			}
			forward, back = turnedOnce(forward), turnedBack(back)
		}
	}
}

func TestTurnByManyAngles(t *testing.T) {
	powers := [4]api.Point{point(1, 2), point(-2, 1), point(-1, -2), point(2, -1)}
	for _, k := range []int{math.MinInt, math.MinInt + 1, math.MinInt + 2, math.MinInt + 3, -1 << 32, -1<<32 - 1, -1000001, 1000003, 1<<32 + 2, math.MaxInt - 3, math.MaxInt - 1, math.MaxInt} {
		// Mod is Euclidean, so it returns 0 to 3 also for negative numbers.
		rest := new(big.Int).Mod(big.NewInt(int64(k)), big.NewInt(4)).Int64()
		if got, errno := plane.Turn(point(1, 2), k); got != powers[rest] || errno != api.OK {
			t.Errorf("Turn by %d = %v, %v, want %v", k, got, errno, powers[rest])
		}
	}
}

func TestTurnOutOfRange(t *testing.T) {
	for _, p := range largePoints() {
		for _, k := range []int{0, 1, -1, 4, math.MinInt, math.MaxInt} {
			if got, errno := plane.Turn(p, k); got != zero || errno != api.ErrRange {
				t.Errorf("Turn(%v, %d) = %v, %v", p, k, got, errno)
			}
		}
	}
}

func TestNorm(t *testing.T) {
	for _, p := range append(smallPoints(), point(3, 4), point(-5, 12)) {
		want := new(big.Int).Add(times(p.X, p.X), times(p.Y, p.Y))
		got, errno := plane.Norm(p)
		exactly, _ := new(big.Float).SetFloat64(got).Int(nil)
		if exactly.Cmp(want) != 0 || got != math.Trunc(got) || math.Signbit(got) || errno != api.OK {
			t.Errorf("Norm(%v) = %v, %v, want %v", p, got, errno, want)
		}
	}
	if got, errno := plane.Norm(point(3, 4)); got != 25 || errno != api.OK {
		t.Errorf("Norm of (3, 4) = %v, %v", got, errno)
	}
}

func TestNormOutOfRange(t *testing.T) {
	for _, p := range largePoints() {
		if got, errno := plane.Norm(p); got != 0 || math.Signbit(got) || errno != api.ErrRange {
			t.Errorf("Norm(%v) = %v, %v", p, got, errno)
		}
	}
}

// P9.5

func TestTurnByFourIsTheIdentity(t *testing.T) {
	for _, p := range smallPoints() {
		for _, k := range []int{4, -4} {
			if got, errno := plane.Turn(p, k); got != p || errno != api.OK {
				t.Errorf("Turn(%v, %d) = %v, %v", p, k, got, errno)
			}
		}
		q := p
		for range 4 {
			q, _ = plane.Turn(q, 1)
		}
		if q != p {
			t.Errorf("four turns of %v lead to %v", p, q)
		}
	}
}

func TestTurnIsAProduct(t *testing.T) {
	for _, p := range smallPoints() {
		want, _ := plane.Product(p, point(0, 1))
		if got, errno := plane.Turn(p, 1); got != want || errno != api.OK {
			t.Errorf("Turn(%v, 1) = %v, %v, but the product is %v", p, got, errno, want)
		}
	}
}

func TestNormOfProduct(t *testing.T) {
	next := numbers(7, 1<<11)
	points := []api.Point{point(0, 0), point(1, 0), point(0, -1), point(1<<12, 0), point(0, -1<<12), point(1<<11, 1<<11), point(-1<<11, 1<<11)}
	for range 100 {
		points = append(points, point(next(), next()))
	}
	for _, a := range points {
		for _, b := range points {
			product, _ := plane.Product(a, b)
			got, errno := plane.Norm(product)
			m, _ := plane.Norm(a)
			n, _ := plane.Norm(b)
			if got != m*n || errno != api.OK {
				t.Errorf("Norm of the product of %v and %v = %v, %v, want %v", a, b, got, errno, m*n)
			}
		}
	}
}
