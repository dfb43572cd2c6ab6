package polygon_test

import (
	"math"
	"math/big"
	"slices"
	"sync"
	"testing"

	"geofence/api"
	"geofence/polygon"
	"geofence/segment"
	"geofence/tape"
)

const (
	all      = 1<<64 - 1
	least    = math.MinInt64
	greatest = math.MaxInt64
)

// vertices names the elements of a list of type api.Point shortly.
type vertices = []api.Point

func point(x, y int64) api.Point { return api.Point{X: x, Y: y} }

// points returns the points with the given coordinates.
func points(l ...int64) vertices {
	var v vertices
	for c := range slices.Chunk(l, 2) {
		v = append(v, point(c[0], c[1]))
	}
	return v
}

// square returns the corners of the whole range of points.
func square() vertices {
	return points(least, least, greatest, least, greatest, greatest, least, greatest)
}

// grid returns the points whose coordinates are from low to high.
func grid(low, high int64) vertices {
	var v vertices
	for x := low; x <= high; x++ {
		for y := low; y <= high; y++ {
			v = append(v, point(x, y))
		}
	}
	return v
}

// lists returns all lists of n of the given points.
func lists(n int, from vertices) []vertices {
	l := []vertices{nil}
	for range n {
		var longer []vertices
		for _, v := range l {
			for _, p := range from {
				longer = append(longer, append(slices.Clone(v), p))
			}
		}
		l = longer
	}
	return l
}

// parabola returns n points of a parabola in the order of their X, which are even. The middle of any two of them is a point with integers as coordinates.
func parabola(n int) vertices {
	var v vertices
	for i := range int64(n) {
		v = append(v, point(2*i, 4*i*i))
	}
	return v
}

// widened returns a parabola of at most 64 points with the coordinates moved and multiplied so that they take up most of the whole range.
func widened(v vertices) vertices {
	var w vertices
	for _, p := range v {
		w = append(w, point(least+p.X<<57, least+p.Y<<50))
	}
	return w
}

// ordinary returns n points from the whole range, and the same ones for the same seed.
func ordinary(n int, seed uint64) vertices {
	x := seed
	next := func() int64 {
		x = x*6364136223846793005 + 1442695040888963407
		return int64(x ^ x>>29)
	}
	var v vertices
	for range n {
		v = append(v, point(next(), next()))
	}
	return v
}

// various returns lists of n points that are strictly convex polygons, if n permits that, and such that are not.
func various(n int) []vertices {
	steep := parabola(n)
	bent := slices.Clone(steep)
	if n > 0 {
		bent[n/2] = steep[0]
	}
	return []vertices{steep, bent, widened(steep), ordinary(n, 1), ordinary(n, 2), make(vertices, n)}
}

// rotated returns v, beginning with the vertex i.
func rotated(v vertices, i int) vertices { return slices.Concat(v[i:], v[:i]) }

func reversed(v vertices) vertices {
	w := slices.Clone(v)
	slices.Reverse(w)
	return w
}

// arrangements returns v and its reversal, beginning with each vertex.
func arrangements(v vertices) []vertices {
	var l []vertices
	for i := range v {
		l = append(l, rotated(v, i), reversed(rotated(v, i)))
	}
	return l
}

// numbers are those of vertices of polygons, and others are those of other lists.
var (
	numbers = []int{3, 4, 5, 6, 7, 8, 15, 16, 17, 31, 32, 33, 62, 63, 64}
	others  = []int{0, 1, 2, 65, 66, 67, 127, 128, 129, 255, 256, 259, 320, 1<<16 + 3, 1<<16 + 64}
)

// turn returns the orientation of three points.
func turn(a, b, c api.Point) int {
	if small(a) && small(b) && small(c) {
		x := (b.X-a.X)*(c.Y-a.Y) - (b.Y-a.Y)*(c.X-a.X)
		return int(min(max(x, -1), 1))
	}
	x := new(big.Int).Mul(difference(b.X, a.X), difference(c.Y, a.Y))
	y := new(big.Int).Mul(difference(b.Y, a.Y), difference(c.X, a.X))
	return x.Cmp(y)
}

// small returns whether words suffice to compute the orientation of p and other such points.
func small(p api.Point) bool { return min(p.X, p.Y) > -1<<20 && max(p.X, p.Y) < 1<<20 }

func difference(a, b int64) *big.Int { return new(big.Int).Sub(big.NewInt(a), big.NewInt(b)) }

// isPolygon returns whether v has as many vertices as a polygon.
func isPolygon(v vertices) bool { return len(v) >= 3 && len(v) <= 64 }

// isConvex returns whether v is a strictly convex polygon.
func isConvex(v vertices) bool {
	if !isPolygon(v) {
		return false
	}
	n := len(v)
	seen := map[int]bool{}
	for i := range n {
		for other := 2; other < n; other++ {
			seen[turn(v[i], v[(i+1)%n], v[(i+other)%n])] = true
		}
	}
	return len(seen) == 1 && !seen[0]
}

// position returns what Locate should return, by the rule for polygons that are strictly convex or not.
func position(v vertices, p api.Point) int64 {
	if !isPolygon(v) {
		return -1
	}
	s, lowest := turn(v[0], v[1], v[2]), 1
	for i := range v {
		lowest = min(lowest, s*turn(v[i], v[(i+1)%len(v)], p))
	}
	return int64(lowest)
}

// place returns the position of a point relative to a polygon whose edges do not meet but at their ends: it is inside if a ray from it crosses the boundary an odd number of times.
func place(v vertices, p api.Point) int64 {
	where := int64(-1)
	for i, from := range v {
		to := v[(i+1)%len(v)]
		if segment.Contains(from, to, p) != 0 {
			return 0
		}
		if from.Y > to.Y {
			from, to = to, from
		}
		if from.Y <= p.Y && p.Y < to.Y && turn(from, to, p) > 0 {
			where = -where
		}
	}
	return where
}

func of(holds bool) uint64 {
	if holds {
		return all
	}
	return 0
}

// P14.1

// checkValid compares Valid with what it should return, and looks whether the list remains.
func checkValid(t *testing.T, v vertices) {
	t.Helper()
	kept := slices.Clone(v)
	if got, want := polygon.Valid(nil, v), of(isConvex(v)); got != want {
		t.Errorf("Valid of %d = %x, want %x", v, got, want)
	}
	if !slices.Equal(v, kept) {
		t.Errorf("Valid changed %d to %d", kept, v)
	}
}

func TestValidExamples(t *testing.T) {
	for _, c := range []struct {
		v    vertices
		want uint64
	}{
		{points(0, 0, 4, 0, 4, 4, 0, 4), all},
		{points(0, 4, 4, 4, 4, 0, 0, 0), all},
		{points(0, 0, 2, 0, 4, 0, 4, 4, 0, 4), 0},
		{points(0, 0, 4, 0, 4, 4, 0, 4, 0, 2), 0},
		{points(0, 0, 4, 0, 4, 4, 4, 4, 0, 4), 0},
		{points(0, 0, 4, 0, 4, 4, 0, 4, 0, 0), 0},
		{points(0, 0, 4, 4, 4, 0, 0, 4), 0},
		{points(0, 0, 4, 0, 1, 1, 0, 4), 0},
		{points(0, 0, 4, 0, 2, 2, 0, 4), 0},
		{points(0, 0, 4, 0, 3, 2, 0, 4), all},
		{points(0, 0, 1, 0, 0, 1), all},
		{points(0, 0, 0, 1, 1, 0), all},
		{points(0, 0, 1, 1, 2, 2), 0},
		{points(0, 0, 0, 0, 1, 1), 0},
		{points(0, 0, 1, 0, 1, 0), 0},
		{points(0, 0, 0, 0, 0, 0), 0},
		{points(0, 0, 1, 0, 0, 1, 0, 0, 1, 0, 0, 1), 0},
		{square(), all},
		{points(least, least, greatest, greatest, least, least+1), all},
		{points(least, least, 0, 0, greatest, greatest), 0},
		{points(least, least, -1, -1, greatest, greatest), 0},
		{points(least, least, 0, -1, greatest, greatest), all},
	} {
		if got := polygon.Valid(nil, c.v); got != c.want {
			t.Errorf("Valid of %d = %x, want %x", c.v, got, c.want)
		}
	}
}

// TestValidSmallGrid uses all lists of up to five points of a grid, on which even convex hexagons fit.
func TestValidSmallGrid(t *testing.T) {
	for n := range 6 {
		for _, v := range lists(n, grid(0, 2)) {
			checkValid(t, v)
		}
	}
}

// TestValidWidePoints uses points at the bounds, and from the whole range.
func TestValidWidePoints(t *testing.T) {
	var bounds vertices
	for _, x := range []int64{least, 0, greatest} {
		bounds = append(bounds, point(x, least), point(x, -1), point(x, greatest))
	}
	for n := range 5 {
		for _, v := range lists(n, bounds) {
			checkValid(t, v)
		}
	}
	for n := range 8 {
		for seed := range uint64(300) {
			checkValid(t, ordinary(n, seed))
		}
	}
}

func TestValidNumbersOfVertices(t *testing.T) {
	for _, n := range numbers {
		for _, v := range []vertices{parabola(n), widened(parabola(n)), reversed(parabola(n))} {
			if got := polygon.Valid(nil, v); got != all {
				t.Errorf("Valid of a strictly convex polygon with %d vertices = %x", n, got)
			}
		}
		for _, v := range various(n) {
			checkValid(t, v)
		}
	}
	for _, n := range others {
		for _, v := range various(n) {
			if got := polygon.Valid(nil, v); got != 0 {
				t.Errorf("Valid of %d points = %x, want 0", n, got)
			}
		}
	}
}

// TestValidOneWrongVertex uses polygons that were strictly convex, until one vertex was moved or another one added.
func TestValidOneWrongVertex(t *testing.T) {
	for _, n := range numbers {
		for _, convex := range []vertices{parabola(n), widened(parabola(n)), reversed(parabola(n))} {
			for _, i := range []int{0, 1, n / 2, n - 2, n - 1} {
				p, next, last := convex[i], convex[(i+1)%n], convex[(i+n-1)%n]
				for _, wrong := range []api.Point{next, last, middle(last, next), convex[(i+n/2)%n], middle(p, next)} {
					moved := slices.Clone(convex)
					moved[i] = wrong
					checkValid(t, moved)
					checkValid(t, slices.Insert(slices.Clone(convex), i+1, wrong))
				}
			}
		}
	}
}

// middle returns the point between two points whose coordinates are even.
func middle(p, q api.Point) api.Point { return point(p.X/2+q.X/2, p.Y/2+q.Y/2) }

// TestValidStars uses the vertices of strictly convex polygons in the order that takes a fixed number of steps ahead. At each vertex of such a star, the turn has the same direction.
func TestValidStars(t *testing.T) {
	for _, n := range numbers {
		convex := parabola(n)
		for step := 1; step < n; step++ {
			var star vertices
			for i := range n {
				star = append(star, convex[i*step%n])
			}
			if got, want := polygon.Valid(nil, star), of(step == 1 || step == n-1); got != want {
				t.Errorf("Valid of a star with %d vertices and the step %d = %x, want %x", n, step, got, want)
			}
		}
	}
}

// orders returns all orders of a list.
func orders(v vertices) []vertices {
	if len(v) == 0 {
		return []vertices{nil}
	}
	var l []vertices
	for _, rest := range orders(v[1:]) {
		for i := range v {
			l = append(l, slices.Insert(slices.Clone(rest), i, v[0]))
		}
	}
	return l
}

func TestValidOrders(t *testing.T) {
	for n := 3; n <= 7; n++ {
		valid := 0
		for _, v := range orders(parabola(n)) {
			checkValid(t, v)
			if polygon.Valid(nil, v) == all {
				valid++
			}
		}
		if valid != 2*n {
			t.Errorf("%d orders of %d vertices are strictly convex polygons, want %d", valid, n, 2*n)
		}
	}
}

// edgeEvents returns the events that Valid should record for n points.
func edgeEvents(n int) []api.Event {
	var l []api.Event
	if n < 3 || n > 64 {
		return l
	}
	for i := range n {
		for j := range n {
			if j != i && j != i+1 && !(i == n-1 && j == 0) {
				l = append(l, api.Event{Kind: api.Edge, A: i, B: j})
			}
		}
	}
	return l
}

func TestValidEventExamples(t *testing.T) {
	for _, c := range []struct {
		v        vertices
		operands [][2]int
	}{
		{nil, nil},
		{points(1, 2), nil},
		{points(1, 2, 3, 4), nil},
		{points(0, 0, 1, 0, 0, 1), [][2]int{{0, 2}, {1, 0}, {2, 1}}},
		{points(0, 0, 0, 0, 0, 0), [][2]int{{0, 2}, {1, 0}, {2, 1}}},
		{points(0, 0, 4, 0, 4, 4, 0, 4), [][2]int{{0, 2}, {0, 3}, {1, 0}, {1, 3}, {2, 0}, {2, 1}, {3, 1}, {3, 2}}},
		{points(0, 0, 4, 0, 0, 0, 0, 4), [][2]int{{0, 2}, {0, 3}, {1, 0}, {1, 3}, {2, 0}, {2, 1}, {3, 1}, {3, 2}}},
	} {
		var want []api.Event
		for _, o := range c.operands {
			want = append(want, api.Event{Kind: api.Edge, A: o[0], B: o[1]})
		}
		x := tape.New()
		polygon.Valid(x, c.v)
		if got := x.Events(); !slices.Equal(got, want) {
			t.Errorf("Valid of %d records %v, want %v", c.v, got, want)
		}
	}
}

// P14.2

func checkOrientation(t *testing.T, v vertices) {
	t.Helper()
	want := 0
	if isPolygon(v) {
		want = turn(v[0], v[1], v[2])
	}
	if got := polygon.Orientation(v); got != int64(want) {
		t.Errorf("Orientation of %d = %d, want %d", v, got, want)
	}
}

func TestOrientationExamples(t *testing.T) {
	for _, c := range []struct {
		v    vertices
		want int64
	}{
		{nil, 0},
		{points(0, 0), 0},
		{points(0, 0, 1, 0), 0},
		{points(0, 0, 1, 0, 0, 1), 1},
		{points(0, 0, 0, 1, 1, 0), -1},
		{points(0, 0, 1, 1, 2, 2), 0},
		{points(0, 0, 4, 0, 4, 4, 0, 4), 1},
		{points(0, 4, 4, 4, 4, 0, 0, 0), -1},
		{points(0, 0, 2, 0, 4, 0, 4, 4, 0, 4), 0},
		{points(0, 0, 4, 0, 1, 1, 0, 4), 1},
		{points(0, 0, 4, 4, 4, 0, 0, 4), -1},
		{square(), 1},
		{points(least, least, greatest, greatest, greatest-1, greatest-1), 0},
		{points(least, least, greatest, greatest, greatest-1, greatest), 1},
	} {
		if got := polygon.Orientation(c.v); got != c.want {
			t.Errorf("Orientation of %d = %d, want %d", c.v, got, c.want)
		}
	}
}

func TestOrientation(t *testing.T) {
	for n := range 5 {
		for _, v := range lists(n, grid(-1, 1)) {
			checkOrientation(t, v)
		}
	}
	for _, n := range slices.Concat(numbers, others) {
		for _, v := range various(n) {
			kept := slices.Clone(v)
			checkOrientation(t, v)
			checkOrientation(t, reversed(v))
			if !slices.Equal(v, kept) {
				t.Errorf("Orientation changed %d points", n)
			}
		}
	}
}

// P14.3

// checkLocate compares Locate with what it should return, and looks whether the list remains.
func checkLocate(t *testing.T, v vertices, p api.Point) {
	t.Helper()
	kept := slices.Clone(v)
	if got, want := polygon.Locate(nil, v, p), position(v, p); got != want {
		t.Errorf("Locate of %d and %d = %d, want %d", v, p, got, want)
	}
	if !slices.Equal(v, kept) {
		t.Errorf("Locate changed %d to %d", kept, v)
	}
}

func TestLocateExamples(t *testing.T) {
	small := points(0, 0, 4, 0, 4, 4, 0, 4)
	flat := points(0, 0, 1, 1, 2, 2)
	for _, c := range []struct {
		v    vertices
		p    api.Point
		want int64
	}{
		{small, point(1, 1), 1},
		{small, point(3, 3), 1},
		{small, point(4, 2), 0},
		{small, point(2, 4), 0},
		{small, point(0, 0), 0},
		{small, point(4, 4), 0},
		{small, point(5, 2), -1},
		{small, point(8, 0), -1},
		{small, point(-1, 0), -1},
		{small, point(5, 5), -1},
		{small, point(least, greatest), -1},
		{square(), point(0, 0), 1},
		{square(), point(least+1, greatest-1), 1},
		{square(), point(least, 0), 0},
		{square(), point(greatest, greatest), 0},
		{points(least, least, greatest, greatest, least, greatest), point(greatest-1, greatest-1), 0},
		{points(least, least, greatest, greatest, least, greatest), point(greatest-2, greatest-1), 1},
		{points(least, least, greatest, greatest, least, greatest), point(greatest-1, greatest-2), -1},
		// Where the first three vertices are collinear, all products are 0.
		{flat, point(0, 0), 0},
		{flat, point(9, 0), 0},
		{flat, point(greatest, least), 0},
		{points(0, 0, 0, 0, 0, 0), point(1, 1), 0},
		{points(0, 0, 2, 0, 4, 0, 4, 4, 0, 4), point(1, 1), 0},
		{points(0, 0, 2, 0, 4, 0, 4, 4, 0, 4), point(9, 9), 0},
		// The edges of these have different orientations with a point between them.
		{points(0, 0, 4, 0, 1, 1, 0, 4), point(1, 0), 0},
		{points(0, 0, 4, 0, 1, 1, 0, 4), point(0, 3), -1},
		{points(4, 0, 1, 1, 0, 4, 0, 0), point(1, 2), -1},
		{points(0, 0, 4, 4, 4, 0, 0, 4), point(3, 2), -1},
		{points(0, 0, 8, 0, 8, 8, 4, 2, 0, 8), point(4, 1), 1},
		{points(0, 0, 8, 0, 8, 8, 4, 2, 0, 8), point(4, 2), 0},
		{points(0, 0, 8, 0, 8, 8, 4, 2, 0, 8), point(7, 5), -1},
	} {
		if got := polygon.Locate(nil, c.v, c.p); got != c.want {
			t.Errorf("Locate of %d and %d = %d, want %d", c.v, c.p, got, c.want)
		}
	}
}

// TestLocateSmallGrid uses all triangles and quadrilaterals of a grid, degenerate and crossed ones included, and points in and around it.
func TestLocateSmallGrid(t *testing.T) {
	for n := range 5 {
		for _, v := range lists(n, grid(0, 2)) {
			convex := isConvex(v)
			for _, p := range grid(-1, 3) {
				checkLocate(t, v, p)
				if got, want := polygon.Locate(nil, v, p), place(v, p); convex && got != want {
					t.Errorf("Locate of %d and %d = %d, want %d", v, p, got, want)
				}
			}
		}
	}
}

func TestLocateWidePoints(t *testing.T) {
	for n := range 8 {
		for seed := range uint64(100) {
			v := ordinary(n, seed)
			for _, p := range slices.Concat(v, square(), ordinary(9, ^seed), grid(-1, 1)) {
				checkLocate(t, v, p)
			}
		}
	}
}

func TestLocateManyVertices(t *testing.T) {
	for _, n := range numbers {
		for _, convex := range []vertices{parabola(n), reversed(parabola(n)), widened(parabola(n))} {
			for _, p := range slices.Concat(square(), ordinary(40, 1), convex) {
				for _, q := range []api.Point{p, middle(p, convex[1])} {
					checkLocate(t, convex, q)
					if got, want := polygon.Locate(nil, convex, q), place(convex, q); got != want {
						t.Errorf("Locate of %d and %d = %d, want %d", convex, q, got, want)
					}
				}
			}
		}
		for _, v := range various(n) {
			for _, p := range ordinary(8, 3) {
				checkLocate(t, v, p)
			}
		}
	}
}

// TestLocateAtEachEdge uses the middle of each edge, and the points beside it, of which one is on the outer side of this edge only.
func TestLocateAtEachEdge(t *testing.T) {
	for _, n := range numbers {
		for _, v := range []vertices{parabola(n), reversed(parabola(n)), rotated(parabola(n), n/2), reversed(rotated(parabola(n), 1))} {
			for i, from := range v {
				p := middle(from, v[(i+1)%n])
				inward := int64(1)
				if p.X == int64(n-1) && p.Y == 2*int64(n-1)*int64(n-1) { // the edge between the first and the last point of the parabola
					inward = -1
				}
				for side := int64(-1); side <= 1; side++ {
					q := point(p.X, p.Y+side*inward)
					if got := polygon.Locate(nil, v, q); got != side {
						t.Errorf("Locate of %d and %d = %d, want %d", v, q, got, side)
					}
				}
			}
		}
	}
}

func TestLocateWithoutAPolygon(t *testing.T) {
	for _, n := range others {
		for _, v := range various(n) {
			inner := point(1, 3)
			for _, p := range append(vertices{inner, {}}, v[:min(n, 4)]...) {
				if got := polygon.Locate(nil, v, p); got != -1 {
					t.Errorf("Locate of %d points and %d = %d, want -1", n, p, got)
				}
			}
		}
	}
}

// sideEvents returns the events that Locate should record for n points.
func sideEvents(n int) []api.Event {
	var l []api.Event
	for i := 0; i < n && n >= 3 && n <= 64; i++ {
		l = append(l, api.Event{Kind: api.Side, A: i})
	}
	return l
}

func TestLocateEventExamples(t *testing.T) {
	three := []api.Event{{Kind: api.Side, A: 0}, {Kind: api.Side, A: 1}, {Kind: api.Side, A: 2}}
	for _, c := range []struct {
		v    vertices
		want []api.Event
	}{
		{nil, nil},
		{points(1, 2), nil},
		{points(1, 2, 3, 4), nil},
		{points(0, 0, 1, 0, 0, 1), three},
		{points(0, 0, 1, 1, 2, 2), three},
		{points(0, 0, 0, 0, 0, 0), three},
		{points(0, 0, 4, 0, 4, 4, 0, 4), append(slices.Clone(three), api.Event{Kind: api.Side, A: 3})},
	} {
		for _, p := range points(0, 0, 1, 1, 9, 9) {
			x := tape.New()
			polygon.Locate(x, c.v, p)
			if got := x.Events(); !slices.Equal(got, c.want) {
				t.Errorf("Locate of %d and %d records %v, want %v", c.v, p, got, c.want)
			}
		}
	}
}

// P14.4

// checkEvents compares the events that a call records with those that it should record, after one that the tape had.
func checkEvents(t *testing.T, name string, v vertices, want []api.Event, call func(x *tape.Tape)) {
	t.Helper()
	x := tape.New()
	x.Note(99, -1, -2)
	call(x)
	if got := x.Events(); got[0] != (api.Event{Kind: 99, A: -1, B: -2}) || !slices.Equal(got[1:], want) {
		t.Errorf("%s of the %d points %d records %v, want %v", name, len(v), v[:min(len(v), 5)], got, want)
	}
}

func TestEventsDependOnTheNumberOfVertices(t *testing.T) {
	var l []int
	for n := range 70 {
		l = append(l, n)
	}
	for _, n := range slices.Concat(l, others) {
		edges, sides := edgeEvents(n), sideEvents(n)
		for _, v := range various(n) {
			checkEvents(t, "Valid", v, edges, func(x *tape.Tape) { polygon.Valid(x, v) })
			for _, p := range append(square(), v[:min(n, 2)]...) {
				checkEvents(t, "Locate", v, sides, func(x *tape.Tape) { polygon.Locate(x, v, p) })
			}
		}
	}
}

func TestResultsDoNotDependOnTheTape(t *testing.T) {
	used := tape.New()
	for n := range 70 {
		for _, v := range various(n) {
			if polygon.Valid(used, v) != polygon.Valid(nil, v) || polygon.Locate(used, v, point(5, 9)) != polygon.Locate(nil, v, point(5, 9)) {
				t.Errorf("the results for %d points depend on the tape", n)
			}
		}
	}
}

// TestPartsOfLists uses lists that are parts of longer ones, whose other points would change the results.
func TestPartsOfLists(t *testing.T) {
	for n := range 70 {
		for _, v := range various(n) {
			whole := slices.Concat(make(vertices, 3), v, make(vertices, 80))
			kept := slices.Clone(whole)
			part := whole[3 : 3+n]
			checkValid(t, part)
			checkOrientation(t, part)
			checkLocate(t, part, point(1, 3))
			if !slices.Equal(whole, kept) {
				t.Errorf("a list that contains the %d points was changed", n)
			}
		}
	}
}

func TestConcurrentCalls(t *testing.T) {
	v := parabola(20)
	var group sync.WaitGroup
	for range 8 {
		group.Go(func() {
			x := tape.New()
			valid, orientation, where := polygon.Valid(x, v), polygon.Orientation(v), polygon.Locate(x, v, v[3])
			if valid != all || orientation != 1 || where != 0 || !slices.Equal(x.Events(), append(edgeEvents(20), sideEvents(20)...)) {
				t.Error("a concurrent call returns or records something else")
			}
		})
	}
	group.Wait()
}

// P14.5

func TestRotationsAndReversals(t *testing.T) {
	for _, n := range []int{3, 4, 5, 6, 7, 8, 16, 17, 64} {
		for k, v := range various(n) {
			valid := polygon.Valid(nil, v)
			for _, w := range arrangements(v) {
				if polygon.Valid(nil, w) != valid {
					t.Errorf("Valid of list %d of %d points changes with its arrangement", k, n)
				}
				for _, p := range append(points(0, 0, 1, 2, 3, 12, 2, 5, -1, -1), v[n/2]) {
					if valid == all && polygon.Locate(nil, w, p) != polygon.Locate(nil, v, p) {
						t.Errorf("Locate of list %d of %d points and %d changes with the arrangement", k, n, p)
					}
				}
			}
		}
	}
}

// onBoundary returns the vertices of a polygon and three points of each edge. The points of edge i, its first end included, have the indices from 4*i.
func onBoundary(v vertices) vertices {
	var l vertices
	for i, from := range v {
		half := middle(from, v[(i+1)%len(v)])
		l = append(l, from, middle(from, half), half, middle(half, v[(i+1)%len(v)]))
	}
	return l
}

func TestVerticesAreOnTheBoundary(t *testing.T) {
	for _, n := range numbers {
		for _, v := range []vertices{parabola(n), reversed(parabola(n)), widened(parabola(n))} {
			for _, p := range v {
				if got := polygon.Locate(nil, v, p); got != 0 {
					t.Errorf("Locate of %d and its vertex %d = %d", v, p, got)
				}
			}
		}
	}
}

// TestPointsBetweenOthers uses the points half way between points of the boundary.
func TestPointsBetweenOthers(t *testing.T) {
	for _, n := range []int{3, 4, 5, 6, 7, 8, 9, 25} {
		v := widened(parabola(n))
		l := onBoundary(v)
		for i, p := range l {
			for step := 1; step < len(l); step++ {
				j := (i + step) % len(l)
				onOneEdge := i/4 == j/4 || j%4 == 0 && j/4 == (i/4+1)%n || i%4 == 0 && i/4 == (j/4+1)%n
				if got := polygon.Locate(nil, v, middle(p, l[j])); (got == 0) != onOneEdge || got < 0 {
					t.Errorf("Locate of a polygon with %d vertices and the point between the points %d and %d of its boundary = %d", n, i, j, got)
				}
			}
		}
	}
}
