package disc_test

import (
	"math"
	"math/big"
	"math/rand/v2"
	"slices"
	"sync"
	"testing"

	"geofence/api"
	"geofence/circle"
	"geofence/disc"
	"geofence/tape"
)

const (
	all      = 1<<64 - 1
	least    = math.MinInt64
	greatest = math.MaxInt64
)

// list names the type of the lists of points shortly.
type list = []api.Point

func point(x, y int64) api.Point { return api.Point{X: x, Y: y} }

// points returns the points with the given coordinates.
func points(coordinates ...int64) list {
	var v list
	for c := range slices.Chunk(coordinates, 2) {
		v = append(v, point(c[0], c[1]))
	}
	return v
}

// grid returns all points with the given coordinates.
func grid(coordinates ...int64) list {
	var v list
	for _, x := range coordinates {
		for _, y := range coordinates {
			v = append(v, point(x, y))
		}
	}
	return v
}

// triples returns all lists of three of the given points.
func triples(from list) []list {
	var l []list
	for _, a := range from {
		for _, b := range from {
			for _, c := range from {
				l = append(l, list{a, b, c})
			}
		}
	}
	return l
}

// ordinary returns n points from the whole range, and the same ones for the same seed.
func ordinary(n int, seed uint64) list {
	source := rand.New(rand.NewPCG(seed, 15))
	var v list
	for range n {
		v = append(v, point(int64(source.Uint64()), int64(source.Uint64())))
	}
	return v
}

// moved returns the points of v, multiplied by k and translated by p.
func moved(v list, k int64, p api.Point) list {
	var w list
	for _, q := range v {
		w = append(w, point(k*q.X+p.X, k*q.Y+p.Y))
	}
	return w
}

// ring are the points with integers as coordinates on the circle around (0, 0) whose radius is 5.
func ring() list {
	return points(5, 0, 4, 3, 3, 4, 0, 5, -3, 4, -4, 3, -5, 0, -4, -3, -3, -4, 0, -5, 3, -4, 4, -3)
}

// rings returns the points of circles of different sizes and centres.
func rings() []list {
	return []list{
		ring(),
		moved(ring(), 1, point(greatest-5, least+5)),
		moved(ring(), 1<<20, point(-7, 1<<50)),
		moved(ring(), 1<<40, point(1<<62, 3)),
		moved(ring(), 1<<60, point(0, 0)),
		moved(ring(), 1<<60, point(3<<60-1, -3<<60)),
	}
}

// straight returns lists of three collinear points, some of them equal.
func straight() []list {
	return []list{
		points(0, 0, 1, 1, 2, 2),
		points(2, 2, 0, 0, 1, 1),
		points(0, 0, 0, 0, 0, 0),
		points(7, -3, 7, -3, 7, -3),
		points(3, 4, 3, 4, 5, 0),
		points(3, 4, 5, 0, 3, 4),
		points(5, 0, 3, 4, 3, 4),
		points(least, 5, -4, 5, greatest, 5),
		points(-9, greatest, -9, 2, -9, least),
		points(least, least, 0, 0, greatest, greatest),
		points(least, least, greatest, greatest, greatest-1, greatest-1),
		points(0, 0, 1<<62, -1<<61, least, 1<<62),
		points(least, greatest, least, greatest, greatest, least),
	}
}

// round returns lists of three points that determine discs, some of which are much greater than the range of points.
func round() []list {
	return []list{
		points(5, 0, 0, 5, -5, 0),
		points(0, 5, 5, 0, -5, 0),
		points(0, 0, 1, 0, 0, 1),
		points(0, 0, 1, 1, 2, 3),
		points(least, least, greatest, least, greatest, greatest),
		points(least, least, least, greatest, greatest, least),
		points(least, 0, 0, 1, greatest, 0),
		points(least, least, greatest, greatest, greatest-1, greatest),
		points(least, least, 0, 0, greatest, greatest-1),
		points(greatest, least, greatest-1, least, greatest, least+1),
	}
}

// otherLengths are lengths of lists that determine no discs. Some of them would be 3 as numbers of 8 or 16 bits.
var otherLengths = []int{0, 1, 2, 4, 5, 6, 7, 9, 64, 259, 1<<16 + 3}

// long returns lists of n points, the first of which determine discs or not.
func long(n int) []list {
	l := []list{make(list, n), ordinary(n, 1)}
	for _, v := range slices.Concat(round(), straight()) {
		l = append(l, slices.Concat(v, make(list, n))[:n])
	}
	return l
}

// vector returns the coordinates of the vector from one point to another one.
func vector(from, to api.Point) [2]*big.Int {
	x, y := big.NewInt(to.X), big.NewInt(to.Y)
	return [2]*big.Int{x.Sub(x, big.NewInt(from.X)), y.Sub(y, big.NewInt(from.Y))}
}

// combination returns a*b - c*d.
func combination(a, b, c, d *big.Int) *big.Int {
	x := new(big.Int).Mul(a, b)
	return x.Sub(x, new(big.Int).Mul(c, d))
}

func squared(u [2]*big.Int) *big.Int {
	x := new(big.Int).Mul(u[0], u[0])
	return x.Add(x, new(big.Int).Mul(u[1], u[1]))
}

// isDisc returns whether v has three points that are not collinear.
func isDisc(v list) bool {
	if len(v) != 3 {
		return false
	}
	b, c := vector(v[0], v[1]), vector(v[0], v[2])
	return combination(b[0], c[1], b[1], c[0]).Sign() != 0
}

// position returns what Locate should return: it compares the distance of p from the centre with the radius.
func position(v list, p api.Point) int64 {
	if len(v) != 3 {
		return -1
	}
	if !isDisc(v) {
		return 0
	}
	b, c, q := vector(v[0], v[1]), vector(v[0], v[2]), vector(v[0], p)
	d := combination(b[0], c[1], b[1], c[0])
	d.Add(d, d)
	// The vector from v[0] to the centre, multiplied by d.
	centre := [2]*big.Int{
		combination(c[1], squared(b), b[1], squared(c)),
		combination(b[0], squared(c), c[0], squared(b)),
	}
	from := [2]*big.Int{}
	for i := range from {
		from[i] = new(big.Int).Mul(d, q[i])
		from[i].Sub(from[i], centre[i])
	}
	return int64(squared(centre).Cmp(squared(from)))
}

func of(holds bool) uint64 {
	if holds {
		return all
	}
	return 0
}

// P15.1

// checkValid compares Valid with what it should return, and looks whether the list remains.
func checkValid(t *testing.T, v list) {
	t.Helper()
	kept := slices.Clone(v)
	if got, want := disc.Valid(nil, v), of(isDisc(v)); got != want {
		t.Errorf("Valid of the %d points %d = %x, want %x", len(v), v[:min(len(v), 5)], got, want)
	}
	if !slices.Equal(v, kept) {
		t.Errorf("Valid changed %d to %d", kept, v)
	}
}

func TestValidExamples(t *testing.T) {
	for _, v := range round() {
		if got := disc.Valid(nil, v); got != all {
			t.Errorf("Valid of %d = %x, want all ones", v, got)
		}
	}
	for _, v := range straight() {
		if got := disc.Valid(nil, v); got != 0 {
			t.Errorf("Valid of %d = %x, want 0", v, got)
		}
	}
}

func TestValidOtherLengths(t *testing.T) {
	if got := disc.Valid(nil, nil); got != 0 {
		t.Errorf("Valid of nil = %x, want 0", got)
	}
	for _, n := range otherLengths {
		for _, v := range long(n) {
			if got := disc.Valid(nil, v); got != 0 {
				t.Errorf("Valid of the %d points %d = %x, want 0", n, v[:min(n, 5)], got)
			}
		}
	}
}

func TestValid(t *testing.T) {
	for _, v := range slices.Concat(triples(grid(0, 1, 2, 3)), triples(grid(least, -1, 0, greatest))) {
		checkValid(t, v)
	}
	for seed := range uint64(2000) {
		v := ordinary(3, seed)
		checkValid(t, v)
		checkValid(t, list{v[0], v[1], v[0]})
		checkValid(t, list{v[0], middle(v[0], v[1]), v[1]})
	}
}

// middle returns the point between two points, or, if a coordinate of it is no integer, one next to it.
func middle(p, q api.Point) api.Point {
	return point(p.X&q.X+(p.X^q.X)>>1, p.Y&q.Y+(p.Y^q.Y)>>1)
}

// P15.2

// checkLocate compares Locate with what it should return, and looks whether the list remains.
func checkLocate(t *testing.T, v list, p api.Point) {
	t.Helper()
	kept := slices.Clone(v)
	if got, want := disc.Locate(nil, v, p), position(v, p); got != want {
		t.Errorf("Locate of the %d points %d and %d = %d, want %d", len(v), v[:min(len(v), 5)], p, got, want)
	}
	if !slices.Equal(v, kept) {
		t.Errorf("Locate changed %d to %d", kept, v)
	}
}

func TestLocateExamples(t *testing.T) {
	five := points(5, 0, 0, 5, -5, 0)
	back := points(-5, 0, 0, 5, 5, 0)
	wide := points(least, least, greatest, least, greatest, greatest)
	flat := points(least, 0, 0, 1, greatest, 0)
	for _, c := range []struct {
		v    list
		p    api.Point
		want int64
	}{
		{five, point(3, 4), 0},
		{five, point(1, 1), 1},
		{five, point(4, 4), -1},
		{five, point(0, 0), 1},
		{five, point(0, -5), 0},
		{five, point(0, -4), 1},
		{five, point(0, -6), -1},
		{five, point(5, 0), 0},
		{five, point(least, greatest), -1},
		{back, point(3, 4), 0},
		{back, point(1, 1), 1},
		{back, point(4, 4), -1},
		{wide, point(least, greatest), 0},
		{wide, point(least, greatest-1), 1},
		{wide, point(0, 0), 1},
		{points(least+1, least, greatest, least, greatest, greatest), point(least, greatest), -1},
		{flat, point(0, least), 1},
		{flat, point(0, 0), 1},
		{flat, point(0, 2), -1},
		{flat, point(1, 1), -1},
		{points(0, 0, 1, 1, 2, 2), point(0, 0), 0},
		{points(0, 0, 1, 1, 2, 2), point(9, 0), 0},
		{points(0, 0, 1, 1, 2, 2), point(0, 9), 0},
		{points(3, 3, 3, 3, 3, 3), point(greatest, least), 0},
	} {
		if got := disc.Locate(nil, c.v, c.p); got != c.want {
			t.Errorf("Locate of %d and %d = %d, want %d", c.v, c.p, got, c.want)
		}
	}
}

func TestLocateSmallGrid(t *testing.T) {
	for _, v := range triples(grid(0, 1, 2, 3)) {
		for _, p := range grid(-1, 0, 1, 2, 4) {
			checkLocate(t, v, p)
		}
	}
}

func TestLocateWidePoints(t *testing.T) {
	bounds := grid(least, -1, 0, greatest)
	for _, v := range triples(bounds) {
		for _, p := range bounds {
			checkLocate(t, v, p)
		}
	}
	for seed := range uint64(300) {
		v := ordinary(3, seed)
		for _, p := range slices.Concat(ordinary(20, ^seed), v, bounds) {
			checkLocate(t, v, p)
			checkLocate(t, v, middle(p, v[0]))
		}
	}
}

// TestLocateNextToTheBoundary uses points of circles and those next to them.
func TestLocateNextToTheBoundary(t *testing.T) {
	for _, l := range rings() {
		for i, p := range l {
			v := list{l[(i+1)%12], l[(i+5)%12], l[(i+6)%12]}
			for _, by := range grid(-1, 0, 1) {
				q := point(p.X+by.X, p.Y+by.Y) // beyond the greatest coordinate is the least one
				checkLocate(t, v, q)
				if got := disc.Locate(nil, v, q); by == (api.Point{}) && got != 0 {
					t.Errorf("Locate of %d and %d = %d, want 0", v, q, got)
				}
			}
		}
	}
}

func TestLocateIsSide(t *testing.T) {
	for _, v := range slices.Concat(round(), straight(), triples(grid(0, 1, 2))) {
		for _, p := range slices.Concat(v, grid(least, -1, 0, 2, greatest), ordinary(10, 3)) {
			if got, want := disc.Locate(nil, v, p), circle.Side(v[0], v[1], v[2], p); got != want {
				t.Errorf("Locate of %d and %d = %d, want %d as for Side", v, p, got, want)
			}
		}
	}
}

func TestLocateCollinearPoints(t *testing.T) {
	for _, v := range straight() {
		for _, p := range slices.Concat(v, grid(least, -1, 0, 1, greatest), ordinary(10, 2)) {
			if got := disc.Locate(nil, v, p); got != 0 {
				t.Errorf("Locate of %d and %d = %d, want 0", v, p, got)
			}
		}
	}
}

func TestLocateOtherLengths(t *testing.T) {
	if got := disc.Locate(nil, nil, point(0, 0)); got != -1 {
		t.Errorf("Locate of nil = %d, want -1", got)
	}
	for _, n := range otherLengths {
		for _, v := range long(n) {
			for _, p := range slices.Concat(points(0, 0, 1, 1, 3, 4, least, greatest), v[:min(n, 4)]) {
				if got := disc.Locate(nil, v, p); got != -1 {
					t.Errorf("Locate of the %d points %d and %d = %d, want -1", n, v[:min(n, 5)], p, got)
				}
			}
		}
	}
}

// Events of P15.1 and P15.2

// checkEvents compares the events that a call records with those that it should record, after one that the tape had.
func checkEvents(t *testing.T, name string, v list, want []api.Event, call func(x *tape.Tape)) {
	t.Helper()
	before := api.Event{Kind: 99, A: -1, B: -2}
	x := tape.New()
	x.Note(before.Kind, before.A, before.B)
	call(x)
	if got := x.Events(); !slices.Equal(got, slices.Concat([]api.Event{before}, want)) {
		t.Errorf("%s of the %d points %d records %v, want %v", name, len(v), v[:min(len(v), 5)], got[1:], want)
	}
}

func TestEvents(t *testing.T) {
	for _, n := range append([]int{3}, otherLengths...) {
		var valid, locate []api.Event
		if n == 3 {
			valid, locate = []api.Event{{Kind: api.Edge, A: 0, B: 2}}, []api.Event{{Kind: api.Circle, A: 0, B: 0}}
		}
		for _, v := range append(long(n), make(list, n, n+3)) {
			checkEvents(t, "Valid", v, valid, func(x *tape.Tape) { disc.Valid(x, v) })
			for _, p := range slices.Concat(points(0, 0, 1, 1, 9, 9, least, greatest), v[:min(n, 3)]) {
				checkEvents(t, "Locate", v, locate, func(x *tape.Tape) { disc.Locate(x, v, p) })
			}
		}
	}
}

func TestResultsDoNotDependOnTheTape(t *testing.T) {
	used, p := tape.New(), point(1, 1)
	for _, n := range append([]int{3}, otherLengths...) {
		for _, v := range long(n) {
			if disc.Valid(used, v) != disc.Valid(nil, v) || disc.Locate(used, v, p) != disc.Locate(nil, v, p) {
				t.Errorf("the results for the %d points %d depend on the tape", n, v[:min(n, 5)])
			}
		}
	}
}

// TestPartsOfLists uses lists that are parts of longer ones, whose other points would change the results.
func TestPartsOfLists(t *testing.T) {
	for _, n := range []int{0, 1, 2, 3, 4, 5} {
		for _, v := range long(n) {
			whole := slices.Concat(make(list, 3), v, ordinary(3, 4))
			kept := slices.Clone(whole)
			part := whole[3 : 3+n]
			checkValid(t, part)
			checkLocate(t, part, point(1, 1))
			if !slices.Equal(whole, kept) {
				t.Errorf("a list that contains the points %d was changed", v)
			}
		}
	}
}

func TestConcurrentCalls(t *testing.T) {
	v := points(5, 0, 0, 5, -5, 0)
	want := []api.Event{{Kind: api.Edge, A: 0, B: 2}, {Kind: api.Circle}}
	var group sync.WaitGroup
	for range 8 {
		group.Go(func() {
			x := tape.New()
			valid, where := disc.Valid(x, v), disc.Locate(x, v, point(1, 1))
			if valid != all || where != 1 || !slices.Equal(x.Events(), want) {
				t.Error("a concurrent call returns or records something else")
			}
		})
	}
	group.Wait()
}

// P15.3

// orders returns the six orders of three points.
func orders(v list) []list {
	a, b, c := v[0], v[1], v[2]
	return []list{{a, b, c}, {a, c, b}, {b, a, c}, {b, c, a}, {c, a, b}, {c, b, a}}
}

// someTriples returns lists of three points that determine discs, and such that do not.
func someTriples() []list {
	l := slices.Concat(round(), straight(), triples(grid(0, 1, 2)), triples(grid(least, 1, greatest)))
	for seed := range uint64(200) {
		l = append(l, ordinary(3, seed))
	}
	return l
}

func TestResultsDoNotDependOnTheOrder(t *testing.T) {
	for _, v := range someTriples() {
		for _, w := range orders(v) {
			if got, want := disc.Valid(nil, w), disc.Valid(nil, v); got != want {
				t.Errorf("Valid of %d = %x, want %x as for %d", w, got, want, v)
			}
			for _, p := range slices.Concat(grid(least, 0, 3), ordinary(2, 5)) {
				if got, want := disc.Locate(nil, w, p), disc.Locate(nil, v, p); got != want {
					t.Errorf("Locate of %d and %d = %d, want %d as for %d", w, p, got, want, v)
				}
			}
		}
	}
}

func TestThePointsAreOnTheBoundary(t *testing.T) {
	for _, v := range someTriples() {
		for _, p := range v {
			if got := disc.Locate(nil, v, p); got != 0 {
				t.Errorf("Locate of %d and its point %d = %d, want 0", v, p, got)
			}
		}
	}
}

// TestPointsOfOneCircle uses lists of three points of the same circle, which determine the same disc.
func TestPointsOfOneCircle(t *testing.T) {
	for _, v := range triples(ring()) {
		different := v[0] != v[1] && v[1] != v[2] && v[2] != v[0]
		if got := disc.Valid(nil, v); got != of(different) {
			t.Errorf("Valid of %d = %x", v, got)
		}
		for _, p := range grid(-4, -3, 0, 3, 5) {
			want := int64(0)
			if different {
				want = max(-1, min(25-p.X*p.X-p.Y*p.Y, 1))
			}
			if got := disc.Locate(nil, v, p); got != want {
				t.Errorf("Locate of %d and %d = %d, want %d", v, p, got, want)
			}
		}
	}
}
