package segment_test

import (
	"math"
	"math/big"
	"slices"
	"testing"

	"geofence/api"
	"geofence/segment"
)

const (
	all      = 1<<64 - 1
	least    = math.MinInt64
	greatest = math.MaxInt64
)

// pair are the ends of two segments, of which the first one leads from p[0] to p[1], and the second one from p[2] to p[3].
type pair [4]api.Point

func (p pair) crosses() uint64 { return segment.Crosses(p[0], p[1], p[2], p[3]) }
func (p pair) meets() uint64   { return segment.Meets(p[0], p[1], p[2], p[3]) }

// turned returns all other pairs of the same two segments, which differ in their order and directions.
func (p pair) turned() []pair {
	a, b, c, d := p[0], p[1], p[2], p[3]
	return []pair{{b, a, c, d}, {a, b, d, c}, {b, a, d, c}, {c, d, a, b}, {d, c, a, b}, {c, d, b, a}, {d, c, b, a}}
}

func point(x, y int64) api.Point { return api.Point{X: x, Y: y} }

// numbers returns a function that returns another number from the whole range at each call, and the same ones for the same seed.
func numbers(seed uint64) func() int64 {
	x := seed
	return func() int64 {
		x = x*6364136223846793005 + 1442695040888963407
		return int64(x ^ x>>29)
	}
}

// grid returns all points with the given coordinates.
func grid(coordinates ...int64) []api.Point {
	var l []api.Point
	for _, x := range coordinates {
		for _, y := range coordinates {
			l = append(l, point(x, y))
		}
	}
	return l
}

// pairsOf returns all pairs of segments between some points.
func pairsOf(points []api.Point) []pair {
	var l []pair
	for _, a := range points {
		for _, b := range points {
			for _, c := range points {
				for _, d := range points {
					l = append(l, pair{a, b, c, d})
				}
			}
		}
	}
	return l
}

// chosenPairs returns n pairs of segments between some points.
func chosenPairs(n int, seed uint64, points []api.Point) []pair {
	next := numbers(seed)
	pick := func() api.Point { return points[uint64(next())%uint64(len(points))] }
	var l []pair
	for range n {
		l = append(l, pair{pick(), pick(), pick(), pick()})
	}
	return l
}

// ordinaryPairs returns pairs of segments between points from the whole range.
func ordinaryPairs() []pair {
	next := numbers(2026)
	pick := func() api.Point { return point(next(), next()) }
	var l []pair
	for range 2000 {
		l = append(l, pair{pick(), pick(), pick(), pick()})
	}
	return l
}

// long are points at equal distances on long lines.
var long = [][]api.Point{
	line(point(least, least), point(1<<61, 1<<61), 8),
	line(point(least, greatest), point(1<<61, -1<<61), 8),
	line(point(least, 7), point(1<<61+1, 0), 8),
	line(point(-7, greatest), point(0, -1<<61-1), 8),
	line(point(least, -5), point(1<<60-1, 3), 16),
	line(point(-3, least), point(-2, 1<<60+1), 15),
	line(point(-1836311903<<30, 17), point(1836311903, 1134903170), 7),
	line(point(0, 0), point(1836311903, -1134903170), 7),
}

// line returns n points, from a on, each of which follows the one before it by the given step.
func line(a, step api.Point, n int) []api.Point {
	l := []api.Point{a}
	for range n - 1 {
		a = point(a.X+step.X, a.Y+step.Y)
		l = append(l, a)
	}
	return l
}

// linePairs returns pairs of segments on the same long line.
func linePairs() []pair {
	var l []pair
	for i, points := range long {
		l = append(l, chosenPairs(300, uint64(i), points)...)
	}
	return l
}

// nearPairs returns pairs of a segment on a long line and one with an end on this line or next to it.
func nearPairs() []pair {
	next := numbers(8)
	var l []pair
	for _, points := range long {
		pick := func() api.Point { return points[uint64(next())%uint64(len(points))] }
		for range 60 {
			a, b, c := pick(), pick(), pick()
			for _, by := range grid(-1, 0, 1) {
				l = append(l, pair{a, b, point(c.X+by.X, c.Y+by.Y), point(next(), next())})
			}
		}
	}
	return l
}

func allPairs() []pair {
	return slices.Concat(
		pairsOf(grid(0, 1, 2)),
		chosenPairs(6000, 4, grid(-3, -2, -1, 0, 1, 2, 3)),
		pairsOf(grid(least, 0, greatest)),
		chosenPairs(4000, 7, grid(least, least+1, -1, 0, 1, greatest-1, greatest)),
		ordinaryPairs(), linePairs(), nearPairs(),
	)
}

// difference returns b - a.
func difference(a, b int64) *big.Int { return new(big.Int).Sub(big.NewInt(b), big.NewInt(a)) }

// cross returns the cross product of the vectors from a to b and from c to d.
func cross(a, b, c, d api.Point) *big.Int {
	first := new(big.Int).Mul(difference(a.X, b.X), difference(c.Y, d.Y))
	second := new(big.Int).Mul(difference(a.Y, b.Y), difference(c.X, d.X))
	return first.Sub(first, second)
}

// dot returns the scalar product of the vectors from a to b and from c to d.
func dot(a, b, c, d api.Point) *big.Int {
	first := new(big.Int).Mul(difference(a.X, b.X), difference(c.X, d.X))
	second := new(big.Int).Mul(difference(a.Y, b.Y), difference(c.Y, d.Y))
	return first.Add(first, second)
}

// parameter returns whether the quotient t of part and whole, which is not 0, is from 0 to 1, and whether it is strictly between them.
func parameter(part, whole *big.Int) (inside, strictly bool) {
	t := new(big.Rat).SetFrac(part, whole)
	low, high := t.Sign(), t.Cmp(big.NewRat(1, 1))
	return low >= 0 && high <= 0, low > 0 && high < 0
}

// contains returns whether p is a + t * (b - a) for a number t from 0 to 1.
func contains(a, b, p api.Point) bool {
	if a == b {
		return p == a
	}
	if cross(a, b, a, p).Sign() != 0 {
		return false
	}
	inside, _ := parameter(dot(a, b, a, p), dot(a, b, a, b))
	return inside
}

// common returns whether two segments have a point in common, and whether the only such point is an end of neither.
func common(p pair) (meets, crosses bool) {
	a, b, c, d := p[0], p[1], p[2], p[3]
	whole := cross(a, b, c, d)
	if whole.Sign() == 0 {
		// What segments of one line have in common begins at an end.
		return contains(a, b, c) || contains(a, b, d) || contains(c, d, a) || contains(c, d, b), false
	}
	// The lines meet in one point, a + t * (b - a) = c + s * (d - c).
	t, tStrictly := parameter(cross(a, c, c, d), whole)
	s, sStrictly := parameter(cross(a, c, a, b), whole)
	return t && s, tStrictly && sStrictly
}

func of(holds bool) uint64 {
	if holds {
		return all
	}
	return 0
}

// words returns the ends of the signed range, their neighbours, powers of two, and ordinary words.
func words() []int64 {
	l := []int64{least, least + 1, least + 2, -3, -2, -1, 0, 1, 2, 3, greatest - 2, greatest - 1, greatest}
	for i := 8; i < 63; i += 9 {
		l = append(l, 1<<i, -1<<i)
	}
	next := numbers(63)
	for range 20 {
		x := next()
		l = append(l, x, x+1, x>>32)
	}
	return l
}

// P8.1

func TestWithinExamples(t *testing.T) {
	for _, c := range []struct {
		a, b, x int64
		want    uint64
	}{
		{1, 5, 3, all},
		{5, 1, 3, all},
		{1, 5, 1, all},
		{1, 5, 5, all},
		{5, 1, 1, all},
		{5, 1, 5, all},
		{1, 5, 0, 0},
		{1, 5, 6, 0},
		{5, 1, 0, 0},
		{5, 1, 6, 0},
		{-4, 4, 0, all},
		{-4, -2, -3, all},
		{-4, -2, 3, 0},
		{7, 7, 7, all},
		{7, 7, 6, 0},
		{7, 7, 8, 0},
		{least, greatest, 0, all},
		{greatest, least, 0, all},
		{least, greatest, least, all},
		{least, greatest, greatest, all},
		{least, least, least, all},
		{least, least, greatest, 0},
		{greatest, greatest, greatest, all},
		{greatest, greatest, least, 0},
		{least, -1, 0, 0},
		{0, greatest, -1, 0},
		{least + 1, greatest, least, 0},
		{least, greatest - 1, greatest, 0},
	} {
		if got := segment.Within(c.a, c.b, c.x); got != c.want {
			t.Errorf("Within(%d, %d, %d) = %x, want %x", c.a, c.b, c.x, got, c.want)
		}
	}
}

func TestWithinIsExact(t *testing.T) {
	l := words()
	for _, a := range l {
		for _, b := range l {
			for _, x := range l {
				if got, want := segment.Within(a, b, x), of(min(a, b) <= x && x <= max(a, b)); got != want {
					t.Errorf("Within(%d, %d, %d) = %x, want %x", a, b, x, got, want)
				}
			}
		}
	}
}

// P8.2

func TestContainsExamples(t *testing.T) {
	for _, c := range []struct {
		a, b, p api.Point
		want    uint64
	}{
		{point(0, 0), point(4, 2), point(2, 1), all},
		{point(0, 0), point(4, 2), point(3, 1), 0},
		{point(0, 0), point(4, 2), point(6, 3), 0},
		{point(0, 0), point(4, 2), point(-2, -1), 0},
		{point(0, 0), point(4, 2), point(0, 0), all},
		{point(0, 0), point(4, 2), point(4, 2), all},
		{point(4, 2), point(0, 0), point(2, 1), all},
		{point(0, 4), point(4, 0), point(1, 3), all},
		{point(0, 4), point(4, 0), point(5, -1), 0},
		// Only one of the coordinates lies within those of the ends.
		{point(0, 5), point(0, 1), point(0, 3), all},
		{point(0, 5), point(0, 1), point(0, 6), 0},
		{point(0, 5), point(0, 1), point(0, 0), 0},
		{point(1, 0), point(5, 0), point(3, 0), all},
		{point(1, 0), point(5, 0), point(0, 0), 0},
		{point(1, 0), point(5, 0), point(6, 0), 0},
		// A segment of one point.
		{point(3, 3), point(3, 3), point(3, 3), all},
		{point(3, 3), point(3, 3), point(3, 4), 0},
		{point(3, 3), point(3, 3), point(4, 3), 0},
		{point(3, 3), point(3, 3), point(0, 0), 0},
		{point(least, greatest), point(least, greatest), point(least, greatest), all},
		{point(least, greatest), point(least, greatest), point(greatest, least), 0},
		// The extreme coordinates.
		{point(least, least), point(greatest, greatest), point(0, 0), all},
		{point(least, least), point(greatest, greatest), point(0, 1), 0},
		{point(least, least), point(greatest-1, greatest-1), point(greatest, greatest), 0},
		{point(least+1, greatest), point(greatest, least+1), point(0, 0), all},
		{point(least, greatest), point(greatest, least), point(0, -1), all},
		{point(least, greatest), point(greatest, least), point(0, 0), 0},
		{point(least, greatest), point(greatest, greatest), point(5, greatest), all},
		{point(least, greatest), point(greatest, greatest), point(5, greatest-1), 0},
	} {
		if got := segment.Contains(c.a, c.b, c.p); got != c.want {
			t.Errorf("Contains(%d, %d, %d) = %x, want %x", c.a, c.b, c.p, got, c.want)
		}
	}
}

func TestContainsIsExact(t *testing.T) {
	var found, beside int
	for _, p := range allPairs() {
		want := contains(p[0], p[1], p[2])
		if want {
			found++
		} else if cross(p[0], p[1], p[0], p[2]).Sign() == 0 {
			beside++
		}
		if got := segment.Contains(p[0], p[1], p[2]); got != of(want) {
			t.Errorf("Contains(%d, %d, %d) = %x, want %x", p[0], p[1], p[2], got, of(want))
		}
	}
	if found == 0 || beside == 0 {
		t.Errorf("%d points are on segments, and %d only on their lines", found, beside)
	}
}

// P8.3 and P8.4

func TestCrossesAndMeetsExamples(t *testing.T) {
	for _, c := range []struct {
		ends           pair
		crosses, meets uint64
	}{
		{pair{point(0, 0), point(2, 2), point(0, 2), point(2, 0)}, all, all},
		{pair{point(0, 0), point(3, 1), point(1, 1), point(2, -1)}, all, all},
		// An end of one segment is an end of the other one, or lies inside of it.
		{pair{point(0, 0), point(2, 0), point(2, 0), point(3, 1)}, 0, all},
		{pair{point(0, 0), point(2, 0), point(1, 0), point(1, 5)}, 0, all},
		{pair{point(0, 0), point(2, 0), point(1, 5), point(1, 0)}, 0, all},
		{pair{point(1, 0), point(1, 5), point(0, 0), point(2, 0)}, 0, all},
		{pair{point(1, 5), point(1, 0), point(0, 0), point(2, 0)}, 0, all},
		// Only one of the segments is divided by the line of the other one.
		{pair{point(0, 0), point(2, 0), point(3, -1), point(3, 1)}, 0, 0},
		{pair{point(3, -1), point(3, 1), point(0, 0), point(2, 0)}, 0, 0},
		{pair{point(0, 0), point(1, 1), point(3, 0), point(0, 3)}, 0, 0},
		{pair{point(0, 0), point(1, 1), point(2, 2), point(5, 0)}, 0, 0},
		// Parallel segments, and segments of one line.
		{pair{point(0, 0), point(2, 0), point(0, 1), point(2, 1)}, 0, 0},
		{pair{point(0, 0), point(2, 0), point(3, 0), point(5, 0)}, 0, 0},
		{pair{point(0, 0), point(2, 0), point(2, 0), point(5, 0)}, 0, all},
		{pair{point(0, 0), point(2, 0), point(1, 0), point(5, 0)}, 0, all},
		{pair{point(0, 0), point(9, 0), point(1, 0), point(5, 0)}, 0, all},
		{pair{point(1, 0), point(5, 0), point(0, 0), point(9, 0)}, 0, all},
		{pair{point(0, 0), point(2, 4), point(0, 0), point(2, 4)}, 0, all},
		{pair{point(0, 0), point(2, 4), point(2, 4), point(0, 0)}, 0, all},
		// Segments of one point.
		{pair{point(1, 1), point(1, 1), point(0, 0), point(2, 2)}, 0, all},
		{pair{point(0, 0), point(2, 2), point(1, 1), point(1, 1)}, 0, all},
		{pair{point(1, 1), point(1, 1), point(0, 0), point(2, 3)}, 0, 0},
		{pair{point(3, 3), point(3, 3), point(0, 0), point(2, 2)}, 0, 0},
		{pair{point(1, 1), point(1, 1), point(1, 1), point(1, 1)}, 0, all},
		{pair{point(1, 1), point(1, 1), point(2, 2), point(2, 2)}, 0, 0},
		// The extreme coordinates.
		{pair{point(least, least), point(greatest, greatest), point(least, greatest), point(greatest, least)}, all, all},
		{pair{point(least, 0), point(greatest, 0), point(0, least), point(0, greatest)}, all, all},
		{pair{point(least, 0), point(greatest, 1), point(0, least), point(0, 0)}, 0, 0},
		{pair{point(least, 0), point(greatest, 1), point(0, least), point(0, 1)}, all, all},
		{pair{point(least, least), point(-1, -1), point(0, 0), point(greatest, greatest)}, 0, 0},
		{pair{point(least, least), point(0, 0), point(0, 0), point(greatest, greatest)}, 0, all},
		{pair{point(least, least), point(greatest, greatest), point(least, least+1), point(greatest-1, greatest)}, 0, 0},
	} {
		if got := c.ends.crosses(); got != c.crosses {
			t.Errorf("Crosses of %d = %x, want %x", c.ends, got, c.crosses)
		}
		if got := c.ends.meets(); got != c.meets {
			t.Errorf("Meets of %d = %x, want %x", c.ends, got, c.meets)
		}
	}
}

func TestCrossesAndMeetsAreExact(t *testing.T) {
	var apart, touching, crossing int
	for _, p := range allPairs() {
		meets, crosses := common(p)
		switch {
		case crosses:
			crossing++
		case meets:
			touching++
		default:
			apart++
		}
		if got, want := p.crosses(), of(crosses); got != want {
			t.Errorf("Crosses of %d = %x, want %x", p, got, want)
		}
		if got, want := p.meets(), of(meets); got != want {
			t.Errorf("Meets of %d = %x, want %x", p, got, want)
		}
	}
	if apart == 0 || touching == 0 || crossing == 0 {
		t.Errorf("%d pairs are apart, %d touch and %d cross", apart, touching, crossing)
	}
}

// P8.5

func TestDirectionsAndOrderDoNotMatter(t *testing.T) {
	for _, p := range allPairs() {
		crosses, meets := p.crosses(), p.meets()
		for _, q := range p.turned() {
			if got := q.crosses(); got != crosses {
				t.Errorf("Crosses of %d = %x, want %x as for %d", q, got, crosses, p)
			}
			if got := q.meets(); got != meets {
				t.Errorf("Meets of %d = %x, want %x as for %d", q, got, meets, p)
			}
		}
		a, b, c := p[0], p[1], p[2]
		if got, want := segment.Contains(b, a, c), segment.Contains(a, b, c); got != want {
			t.Errorf("Contains(%d, %d, %d) = %x, want %x as in the other direction", b, a, c, got, want)
		}
		if got, want := segment.Within(b.X, a.X, c.X), segment.Within(a.X, b.X, c.X); got != want {
			t.Errorf("Within(%d, %d, %d) = %x, want %x as in the other direction", b.X, a.X, c.X, got, want)
		}
	}
}

func TestSegmentMeetsItselfAndContainsItsEnds(t *testing.T) {
	for _, p := range allPairs() {
		a, b := p[0], p[1]
		for _, q := range []pair{{a, b, a, b}, {a, b, b, a}, {a, a, a, a}} {
			if got := q.meets(); got != all {
				t.Errorf("Meets of %d = %x, want %x", q, got, uint64(all))
			}
		}
		for _, end := range []api.Point{a, b} {
			if got := segment.Contains(a, b, end); got != all {
				t.Errorf("Contains(%d, %d, %d) = %x, want %x", a, b, end, got, uint64(all))
			}
		}
	}
}
