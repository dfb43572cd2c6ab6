package engine_test

import (
	"math"
	"math/big"
	"math/rand/v2"
	"slices"
	"sync"
	"testing"

	"geofence/api"
	"geofence/codec"
	"geofence/engine"
	"geofence/tape"
)

const (
	least    = math.MinInt64
	greatest = math.MaxInt64

	allow = false
	deny  = true
)

// Short names of the types of lists.
type (
	points  = []api.Point
	regions = []api.Region
	events  = []api.Event
)

func source(seed uint64) *rand.Rand { return rand.New(rand.NewPCG(seed, 19)) }

func point(x, y int64) api.Point { return api.Point{X: x, Y: y} }

// list returns the points with the given coordinates.
func list(coordinates ...int64) points {
	var v points
	for c := range slices.Chunk(coordinates, 2) {
		v = append(v, point(c[0], c[1]))
	}
	return v
}

// grid returns all points with the given coordinates.
func grid(coordinates ...int64) points {
	var v points
	for _, x := range coordinates {
		for _, y := range coordinates {
			v = append(v, point(x, y))
		}
	}
	return v
}

// lists returns all lists of n of the given points.
func lists(n int, from points) []points {
	l := []points{nil}
	for range n {
		var longer []points
		for _, v := range l {
			for _, p := range from {
				longer = append(longer, append(slices.Clone(v), p))
			}
		}
		l = longer
	}
	return l
}

// parabola returns n points of a parabola, which are a strictly convex polygon if n is from 3 to 64.
func parabola(n int) points {
	var v points
	for i := range int64(n) {
		v = append(v, point(2*i, 4*i*i))
	}
	return v
}

// widened returns the points of a parabola of at most 64 points, multiplied and moved so that they take up most of the whole range.
func widened(v points) points {
	var w points
	for _, p := range v {
		w = append(w, point(least+p.X<<57, least+p.Y<<50))
	}
	return w
}

// polygonOf returns the region of the polygon with the given coordinates.
func polygonOf(denies bool, coordinates ...int64) api.Region {
	return api.Region{Deny: denies, Vertices: len(coordinates) / 2, Points: list(coordinates...)}
}

// discOf returns the region of the disc with the given coordinates.
func discOf(denies bool, coordinates ...int64) api.Region {
	return api.Region{Deny: denies, Points: list(coordinates...)}
}

// box returns the rectangle with the opposite corners (a, b) and (c, d).
func box(denies bool, a, b, c, d int64) api.Region {
	return polygonOf(denies, a, b, c, b, c, d, a, d)
}

// round returns the disc with the centre (x, y) and the radius r.
func round(denies bool, x, y, r int64) api.Region {
	return discOf(denies, x+r, y, x, y+r, x-r, y)
}

// copies returns a fence of n equal regions.
func copies(n int, g api.Region) regions { return slices.Repeat(regions{g}, n) }

// kinds returns the regions with the given bytes, as in headers.
func kinds(b ...byte) regions {
	var l regions
	for _, x := range b {
		l = append(l, api.Region{Deny: x&128 != 0, Vertices: int(x & 127)})
	}
	return l
}

// orient returns a request for the orientation of three points, and circle, convex and fence those of the other operations.
func orient(v ...api.Point) codec.Request {
	return codec.Request{Header: api.Header{Op: 1}, Points: v}
}

func circle(v ...api.Point) codec.Request {
	return codec.Request{Header: api.Header{Op: 2}, Points: v}
}

func convex(v points, p api.Point) codec.Request {
	return codec.Request{Header: api.Header{Op: 3, Vertices: len(v)}, Points: append(slices.Clone(v), p)}
}

func fence(l regions, p api.Point) codec.Request {
	return codec.Request{Header: api.Header{Op: 4, Regions: structure(l)}, Regions: l, Points: points{p}}
}

// batch returns a request with n queries at (0, 0).
func batch(l regions, n int) codec.Request {
	return codec.Request{Header: api.Header{Op: 5, Regions: structure(l), Points: n}, Regions: l, Queries: make([]api.Query, n)}
}

// structure returns the public parts of regions.
func structure(l regions) regions {
	m := slices.Clone(l)
	for i := range m {
		m[i].Points = nil
	}
	return m
}

func clonedRegions(l regions) regions {
	m := slices.Clone(l)
	for i := range m {
		m[i].Points = slices.Clone(m[i].Points)
	}
	return m
}

// cloned returns r in memory of its own.
func cloned(r codec.Request) codec.Request {
	r.Header.Regions, r.Regions = clonedRegions(r.Header.Regions), clonedRegions(r.Regions)
	r.Points, r.Queries = slices.Clone(r.Points), slices.Clone(r.Queries)
	return r
}

func equalRegions(g, h api.Region) bool {
	return g.Deny == h.Deny && g.Vertices == h.Vertices && slices.Equal(g.Points, h.Points)
}

func equalRequests(r, s codec.Request) bool {
	g, h := r.Header, s.Header
	return g.Op == h.Op && g.Vertices == h.Vertices && g.Points == h.Points && slices.EqualFunc(g.Regions, h.Regions, equalRegions) &&
		slices.EqualFunc(r.Regions, s.Regions, equalRegions) && slices.Equal(r.Points, s.Points) && slices.Equal(r.Queries, s.Queries)
}

// The reference computes with integers of any size.

// vector is the vector from a point to another one.
type vector [2]*big.Int

func between(a, b api.Point) vector {
	difference := func(x, y int64) *big.Int { return new(big.Int).Sub(big.NewInt(y), big.NewInt(x)) }
	return vector{difference(a.X, b.X), difference(a.Y, b.Y)}
}

func cross(u, v vector) *big.Int {
	x := new(big.Int).Mul(u[0], v[1])
	return x.Sub(x, new(big.Int).Mul(u[1], v[0]))
}

func norm(u vector) *big.Int {
	x := new(big.Int).Mul(u[0], u[0])
	return x.Add(x, new(big.Int).Mul(u[1], u[1]))
}

// turn returns the orientation of three points.
func turn(a, b, c api.Point) int { return cross(between(a, b), between(a, c)).Sign() }

// lifted returns the sign of the lifted determinant, by its last column.
func lifted(a, b, c, d api.Point) int {
	u, v, w := between(d, a), between(d, b), between(d, c)
	x := new(big.Int).Mul(norm(u), cross(v, w))
	x.Sub(x, new(big.Int).Mul(norm(v), cross(u, w)))
	return x.Add(x, new(big.Int).Mul(norm(w), cross(u, v))).Sign()
}

// isConvex returns whether v is a strictly convex polygon.
func isConvex(v points) bool {
	if len(v) < 3 || len(v) > 64 {
		return false
	}
	first := turn(v[0], v[1], v[2])
	if first == 0 {
		return false
	}
	for i := range v {
		next := (i + 1) % len(v)
		for j := range v {
			if j != i && j != next && turn(v[i], v[next], v[j]) != first {
				return false
			}
		}
	}
	return true
}

// position returns -1, 0 or 1 if p is outside the strictly convex polygon v, on its boundary, or inside.
func position(v points, p api.Point) int {
	lowest := 1
	for i := range v {
		lowest = min(lowest, turn(v[0], v[1], v[2])*turn(v[i], v[(i+1)%len(v)], p))
	}
	return lowest
}

// convexValue returns what Convex should return.
func convexValue(v points, p api.Point) int {
	if !isConvex(v) {
		return 3
	}
	return position(v, p) + 1
}

// size returns the number of points of a region with these Vertices, or 0 if there is none.
func size(vertices int) int {
	switch {
	case vertices == 0:
		return 3
	case vertices < 3 || vertices > 64:
		return 0
	}
	return vertices
}

// isFence returns whether l has as many regions as a fence may have, all of which have as many points as they should.
func isFence(l regions) bool {
	for _, g := range l {
		if size(g.Vertices) == 0 || len(g.Points) != size(g.Vertices) {
			return false
		}
	}
	return len(l) >= 1 && len(l) <= 64
}

// fenceValue returns what Fence should return.
func fenceValue(l regions, p api.Point) int {
	if !isFence(l) {
		return 2
	}
	allowed, denied := false, false
	for _, g := range l {
		v, in := g.Points, false
		if g.Vertices == 0 {
			s := turn(v[0], v[1], v[2])
			if s == 0 {
				return 2
			}
			in = s*lifted(v[0], v[1], v[2], p) >= 0
		} else {
			if !isConvex(v) {
				return 2
			}
			in = position(v, p) >= 0
		}
		allowed, denied = allowed || in && !g.Deny, denied || in && g.Deny
	}
	if allowed && !denied {
		return 1
	}
	return 0
}

// value returns the Value for a request without errors.
func value(r codec.Request) int {
	v := r.Points
	switch r.Header.Op {
	case 1:
		return turn(v[0], v[1], v[2]) + 1
	case 2:
		return lifted(v[0], v[1], v[2], v[3]) + 1
	case 3:
		return convexValue(v[:len(v)-1], v[len(v)-1])
	}
	return fenceValue(r.Regions, v[0])
}

// edgeEvents returns the events of the validation of a polygon with this number of vertices, or of a disc for 0.
func edgeEvents(vertices int) events {
	if vertices == 0 {
		return events{{Kind: api.Edge, A: 0, B: 2}}
	}
	var l events
	for i := range vertices {
		for j := range vertices {
			if j != i && j != (i+1)%vertices {
				l = append(l, api.Event{Kind: api.Edge, A: i, B: j})
			}
		}
	}
	return l
}

// sideEvents returns the events of the location of a point.
func sideEvents(vertices int) events {
	if vertices == 0 {
		return events{{Kind: api.Circle}}
	}
	var l events
	for i := range vertices {
		l = append(l, api.Event{Kind: api.Side, A: i})
	}
	return l
}

// convexEvents returns the events that Convex should record for n points.
func convexEvents(n int) events {
	if n < 3 || n > 64 {
		return nil
	}
	return append(edgeEvents(n), sideEvents(n)...)
}

// fenceEvents returns the events that Fence should record for a fence with the structure of l.
func fenceEvents(l regions) events {
	var valid, member events
	for i, g := range l {
		valid = append(append(valid, api.Event{Kind: api.Area, A: i, B: 0}), edgeEvents(g.Vertices)...)
		member = append(append(member, api.Event{Kind: api.Area, A: i, B: 1}), sideEvents(g.Vertices)...)
	}
	return append(valid, member...)
}

// eventsOf returns the events that Answer should record for a request with the header h.
func eventsOf(h api.Header) events {
	switch h.Op {
	case 3:
		return convexEvents(h.Vertices)
	case 4:
		return fenceEvents(h.Regions)
	}
	return nil
}

// former is an event that a tape has before the calls.
var former = api.Event{Kind: 99, A: -1, B: -2}

// record calls f with a tape that has the event former, and returns the events that f records after it.
func record(t *testing.T, f func(x *tape.Tape)) events {
	t.Helper()
	x := tape.New()
	x.Note(former.Kind, former.A, former.B)
	f(x)
	l := x.Events()
	if len(l) == 0 || l[0] != former {
		t.Fatal("a call changed the events of a tape")
	}
	return l[1:]
}

// short returns the beginning of a list for messages.
func short[T any](l []T) []T { return l[:min(len(l), 5)] }

// checkConvex compares Convex with the wanted Value and events, with a tape and without one.
func checkConvex(t *testing.T, v points, p api.Point, want int) {
	t.Helper()
	kept, got := slices.Clone(v), -1
	recorded := record(t, func(x *tape.Tape) { got = engine.Convex(x, v, p) })
	if without := engine.Convex(nil, v, p); got != want || without != want {
		t.Errorf("Convex of %d points %d and %d = %d, and %d without a tape, want %d", len(v), short(v), p, got, without, want)
	}
	if !slices.Equal(recorded, convexEvents(len(v))) {
		t.Errorf("Convex of %d points %d and %d records %v", len(v), short(v), p, short(recorded))
	}
	if !slices.Equal(v, kept) {
		t.Errorf("Convex changed %d to %d", kept, v)
	}
}

// checkFence compares Fence with the wanted Value and events, with a tape and without one.
func checkFence(t *testing.T, l regions, p api.Point, want int) {
	t.Helper()
	kept, got := clonedRegions(l), -1
	recorded := record(t, func(x *tape.Tape) { got = engine.Fence(x, l, p) })
	if without := engine.Fence(nil, l, p); got != want || without != want {
		t.Errorf("Fence of %d regions %v and %d = %d, and %d without a tape, want %d", len(l), short(l), p, got, without, want)
	}
	var wanted events
	if isFence(l) {
		wanted = fenceEvents(l)
	}
	if !slices.Equal(recorded, wanted) {
		t.Errorf("Fence of %d regions %v and %d records %v, want %v", len(l), short(l), p, short(recorded), short(wanted))
	}
	if !slices.EqualFunc(l, kept, equalRegions) {
		t.Errorf("Fence changed %v to %v", kept, l)
	}
}

// checkAnswer compares Answer with the wanted Value or error and events, with a tape and without one.
func checkAnswer(t *testing.T, r codec.Request, want int, wantErrno api.Errno) {
	t.Helper()
	kept := cloned(r)
	var a codec.Answer
	var errno api.Errno
	recorded := record(t, func(x *tape.Tape) { a, errno = engine.Answer(x, r) })
	if a.Value != want || a.Count != 0 || len(a.Records) != 0 || errno != wantErrno {
		t.Errorf("Answer for %v, %d regions and the points %d = %v and %v, want the Value %d and %v", r.Header, len(r.Regions), short(r.Points), a, errno, want, wantErrno)
	}
	if b, again := engine.Answer(nil, r); b.Value != a.Value || b.Count != 0 || len(b.Records) != 0 || again != errno {
		t.Errorf("Answer for %v and the points %d = %v and %v without a tape, and %v and %v with one", r.Header, short(r.Points), b, again, a, errno)
	}
	var wanted events
	if wantErrno == api.OK {
		wanted = eventsOf(r.Header)
	}
	if !slices.Equal(recorded, wanted) {
		t.Errorf("Answer for %v and the points %d records %v, want %v", r.Header, short(r.Points), short(recorded), short(wanted))
	}
	if !equalRequests(r, kept) {
		t.Errorf("Answer changed %v to %v", kept, r)
	}
}

// Names of ways to choose points.
const (
	ordinary = iota
	small
	extreme
	equal
	curved
	wide
	styles
)

// somePoints returns n points of the given style.
func somePoints(random *rand.Rand, n, style int) points {
	bounds := []int64{least, least + 1, -1, 0, 1, greatest - 1, greatest}
	coordinate := func() int64 {
		switch style {
		case small:
			return random.Int64N(5) - 2
		case extreme:
			return bounds[random.IntN(len(bounds))]
		}
		return int64(random.Uint64())
	}
	v := parabola(n)
	switch style {
	case curved:
		return v
	case wide:
		return widened(v)
	case equal:
		return slices.Repeat(list(coordinate(), coordinate()), n)
	}
	for i := range v {
		v[i] = point(coordinate(), coordinate())
	}
	return v
}

// requestFor returns a request with the header h, which has no errors, and points of the given style.
func requestFor(random *rand.Rand, h api.Header, style int) codec.Request {
	r := codec.Request{Header: h}
	for _, g := range h.Regions {
		g.Points = somePoints(random, size(g.Vertices), style)
		r.Regions = append(r.Regions, g)
	}
	r.Points = somePoints(random, map[int]int{1: 3, 2: 4, 3: h.Vertices, 4: 0}[h.Op], style)
	if h.Op < 3 {
		return r
	}
	return withLast(random, r, style)
}

// withLast returns r with a further point, which is one of those in r, one near them, or any.
func withLast(random *rand.Rand, r codec.Request, style int) codec.Request {
	known := slices.Clone(r.Points)
	for _, g := range r.Regions {
		known = append(known, g.Points...)
	}
	p := known[random.IntN(len(known))]
	switch random.IntN(4) {
	case 0:
		p.Y += 1 << random.IntN(8)
	case 1:
		p = point(random.Int64N(16), random.Int64N(64))
	case 2:
		p = somePoints(random, 1, style)[0]
	}
	r.Points = append(r.Points, p)
	return r
}

// samples are headers without errors for single queries: those at the bounds, and ordinary ones.
func samples() []api.Header {
	l := []api.Header{{Op: 1}, {Op: 2}}
	for n := 3; n <= 64; n++ {
		l = append(l, api.Header{Op: 3, Vertices: n})
	}
	for _, b := range [][]byte{{0}, {128}, {3}, {4}, {64}, {131}, {192}, {0, 3, 128, 132}, {5, 133, 128, 4, 0}, {131, 0}, {3, 3}, {0, 0, 0}} {
		l = append(l, api.Header{Op: 4, Regions: kinds(b...)})
	}
	for _, x := range []byte{0, 3, 128, 131} {
		l = append(l, api.Header{Op: 4, Regions: slices.Repeat(kinds(x), 63)}, api.Header{Op: 4, Regions: slices.Repeat(kinds(x), 64)})
	}
	return l
}

// P19.1

func TestConvexExamples(t *testing.T) {
	square := list(0, 0, 4, 0, 4, 4, 0, 4)
	for _, c := range []struct {
		v    points
		p    api.Point
		want int
	}{
		{square, point(4, 2), 1},
		{square, point(0, 0), 1},
		{square, point(1, 1), 2},
		{square, point(5, 2), 0},
		{square, point(8, 0), 0},
		{list(0, 4, 4, 4, 4, 0, 0, 0), point(4, 2), 1},
		{list(0, 4, 4, 4, 4, 0, 0, 0), point(1, 1), 2},
		{list(0, 4, 4, 4, 4, 0, 0, 0), point(5, 2), 0},
		{list(0, 0, 1, 1, 2, 2), point(4, 2), 3},
		{list(0, 0, 1, 1, 2, 2), point(1, 1), 3},
		{list(0, 0, 2, 0, 4, 0, 4, 4, 0, 4), point(1, 1), 3},
		{list(0, 0, 4, 0, 0, 4, 4, 4), point(1, 1), 3},
		{list(0, 0, 4, 0, 1, 1, 0, 4), point(1, 0), 3},
		{list(0, 0, 4, 0, 1, 1, 0, 4), point(9, 9), 3},
		{list(7, 7, 7, 7, 7, 7), point(7, 7), 3},
		{list(least, least, greatest, least, greatest, greatest, least, greatest), point(0, 0), 2},
		{list(least, least, greatest, least, greatest, greatest, least, greatest), point(greatest, 5), 1},
		{list(least, least, greatest, least, greatest, greatest), point(least, greatest), 0},
		{list(least, least, greatest, greatest, greatest-1, greatest-1), point(0, 0), 3},
		{list(least, least, greatest, greatest, greatest-1, greatest), point(greatest, greatest), 1},
		{parabola(64), point(3, 11), 2},
		{parabola(64), point(3, 10), 1},
		{parabola(64), point(3, 9), 0},
		{widened(parabola(64)), point(least+2<<57, least+4<<50), 1},
		{nil, point(0, 0), 3},
		{points{}, point(0, 0), 3},
		{list(0, 0), point(0, 0), 3},
		{list(0, 0, 1, 0), point(0, 0), 3},
		{parabola(65), point(3, 10), 3},
	} {
		checkConvex(t, c.v, c.p, c.want)
	}
}

// TestConvexLists uses all lists of three and some of the lists of four points of a small grid.
func TestConvexLists(t *testing.T) {
	from := grid(0, 1, 2)
	for i, v := range append(lists(3, from), lists(4, from)...) {
		for j, p := range grid(0, 1, 2, 3) {
			if len(v) == 3 || (i+j)%4 == 0 {
				checkConvex(t, v, p, convexValue(v, p))
			}
		}
	}
}

// TestConvexStyles uses points of all styles for each number of vertices, and strictly convex polygons with one other vertex.
func TestConvexStyles(t *testing.T) {
	for n := 3; n <= 64; n++ {
		random := source(uint64(n))
		for style := range styles {
			r := requestFor(random, api.Header{Op: 3, Vertices: n}, style)
			checkConvex(t, r.Points[:n], r.Points[n], convexValue(r.Points[:n], r.Points[n]))
		}
		v := parabola(n)
		v[random.IntN(n)] = somePoints(random, 1, small)[0]
		p := point(random.Int64N(4), random.Int64N(10))
		checkConvex(t, v, p, convexValue(v, p))
	}
}

// TestConvexNoPolygons uses lists of points that are too short or too long.
func TestConvexNoPolygons(t *testing.T) {
	for _, n := range []int{0, 1, 2, 65, 66, 67, 127, 128, 256, 256 + 3, 256 + 64, 1<<16 + 3, 1<<16 + 64} {
		for _, v := range []points{parabola(n), make(points, n), somePoints(source(1), n, ordinary)} {
			for _, p := range list(0, 0, 1, 2, 3, 10, least, greatest) {
				checkConvex(t, v, p, 3)
			}
		}
	}
}

func TestFenceExamples(t *testing.T) {
	square, ring := box(allow, 0, 0, 4, 4), discOf(deny, 1, 0, 0, 1, -1, 0)
	straight, flat := discOf(allow, 0, 0, 1, 1, 2, 2), polygonOf(allow, 0, 0, 2, 0, 4, 0, 4, 4, 0, 4)
	everywhere := box(allow, least, least, greatest, greatest)
	for _, c := range []struct {
		l    regions
		p    api.Point
		want int
	}{
		{regions{square}, point(4, 4), 1},
		{regions{square}, point(1, 1), 1},
		{regions{square}, point(5, 4), 0},
		{regions{square, ring}, point(3, 3), 1},
		{regions{square, ring}, point(1, 0), 0},
		{regions{square, ring}, point(0, 0), 0},
		{regions{square, ring}, point(5, 5), 0},
		{regions{ring, square}, point(3, 3), 1},
		{regions{ring}, point(0, 0), 0},
		{regions{ring}, point(9, 9), 0},
		{regions{round(allow, 0, 0, 5)}, point(3, 4), 1},
		{regions{round(allow, 0, 0, 5)}, point(4, 4), 0},
		{regions{everywhere}, point(least, greatest), 1},
		{regions{everywhere, box(deny, greatest-1, least, greatest, greatest)}, point(greatest-1, 0), 0},
		{regions{everywhere, box(deny, greatest-1, least, greatest, greatest)}, point(greatest-2, 0), 1},
		{regions{straight}, point(1, 1), 2},
		{regions{straight}, point(9, 0), 2},
		{regions{square, straight}, point(1, 2), 2},
		{regions{straight, square}, point(9, 9), 2},
		{regions{flat}, point(1, 1), 2},
		{regions{flat, ring}, point(0, 0), 2},
		{regions{square, flat}, point(9, 9), 2},
		{append(copies(63, square), straight), point(1, 1), 2},
		{copies(64, square), point(1, 1), 1},
		{copies(64, ring), point(1, 1), 0},
		{nil, point(0, 0), 2},
		{regions{}, point(0, 0), 2},
		{regions{{Vertices: 3}}, point(0, 0), 2},
		{regions{{}}, point(0, 0), 2},
		{regions{square, {Vertices: 2, Points: list(0, 0, 1, 1)}}, point(1, 1), 2},
		{copies(65, square), point(1, 1), 2},
	} {
		checkFence(t, c.l, c.p, c.want)
	}
}

// TestFenceStyles uses points of all styles, alone and mixed.
func TestFenceStyles(t *testing.T) {
	for seed, h := range samples() {
		if h.Op != 4 {
			continue
		}
		random := source(uint64(seed))
		for range 2 {
			for style := range styles {
				r, other := requestFor(random, h, style), requestFor(random, h, curved)
				i := random.IntN(len(h.Regions))
				other.Regions[i] = r.Regions[i]
				for _, l := range []regions{r.Regions, other.Regions} {
					for _, p := range append(list(0, 0, 3, 10), r.Points[0]) {
						checkFence(t, l, p, fenceValue(l, p))
					}
				}
			}
		}
	}
}

// TestFenceCovers uses valid fences of boxes and discs of a small grid, which leave points to the members and to others.
func TestFenceCovers(t *testing.T) {
	for seed := range uint64(40) {
		random := source(^seed)
		var l regions
		for range 1 + seed%6 {
			x, y, r := random.Int64N(9), random.Int64N(9), 1+random.Int64N(4)
			l = append(l, []api.Region{box(allow, x, y, x+r, y+2), round(allow, x, y, r), box(deny, x, y, x+1, y+r), round(deny, x, y, r)}[random.IntN(4)])
		}
		for _, p := range grid(-1, 0, 2, 3, 4, 5, 7, 9, 12) {
			checkFence(t, l, p, fenceValue(l, p))
		}
	}
}

// TestFenceOneInvalidRegion has an invalid region, or one of no kind or with a wrong number of points, at each place of a fence.
func TestFenceOneInvalidRegion(t *testing.T) {
	for _, bad := range []api.Region{
		discOf(allow, 0, 0, 1, 1, 2, 2),
		discOf(deny, 3, 4, 3, 4, 5, 0),
		polygonOf(deny, 0, 0, 4, 4, 4, 0, 0, 4),
		{Vertices: 64, Points: make(points, 64)},
		{Vertices: 1, Points: list(0, 0)},
		{Vertices: 65, Points: parabola(65)},
		{Vertices: -3, Points: parabola(3)},
		{Vertices: 256 + 3, Points: parabola(3)},
		{Vertices: math.MaxInt},
		{Vertices: math.MinInt, Deny: true},
		{Vertices: 4, Points: parabola(3)},
		{Points: parabola(4)},
		{Deny: true},
	} {
		for _, n := range []int{1, 2, 3, 64} {
			for i := range n {
				l := copies(n, box(allow, 0, 0, 4, 4))
				l[n/2] = round(deny, 0, 0, 1)
				l[i] = bad
				checkFence(t, l, point(3, 3), 2)
				checkFence(t, l, point(9, 9), 2)
			}
		}
	}
}

// P19.2

func TestAnswerExamples(t *testing.T) {
	square := list(0, 0, 4, 0, 4, 4, 0, 4)
	far := list(1<<62, 1<<62, 1<<62+1, 1<<62, 1<<62, 1<<62+1)
	for _, c := range []struct {
		r    codec.Request
		want int
	}{
		{orient(list(0, 0, 1, 0, 0, 1)...), 2},
		{orient(list(0, 0, 0, 1, 1, 0)...), 0},
		{orient(list(0, 0, 1, 0, 2, 0)...), 1},
		{orient(far...), 2},
		{orient(far[1], far[0], far[2]), 0},
		{orient(list(least, least, greatest, greatest, greatest-1, greatest-1)...), 1},
		{orient(list(least, least, greatest, greatest, greatest-1, greatest)...), 2},
		{circle(list(0, 0, 2, 0, 0, 2, 2, 2)...), 1},
		{circle(list(0, 0, 2, 0, 0, 2, 1, 1)...), 2},
		{circle(list(0, 0, 2, 0, 0, 2, 3, 3)...), 0},
		{circle(list(0, 0, 0, 2, 2, 0, 1, 1)...), 0},
		{circle(list(0, 0, 0, 2, 2, 0, 3, 3)...), 2},
		{circle(list(0, 0, 1, 0, 2, 0, 5, 0)...), 1},
		// The points a, b and c are collinear, so that circle.Side would be 0, but not the lifted determinant.
		{circle(list(0, 0, 1, 0, 2, 0, 1, 1)...), 2},
		{circle(list(0, 0, 1, 0, 2, 0, 1, -1)...), 0},
		{circle(list(least, least, greatest, least, greatest, greatest, least, greatest)...), 1},
		{circle(list(least, least, greatest, least, greatest, greatest, least+1, greatest)...), 2},
		{convex(square, point(4, 2)), 1},
		{convex(square, point(1, 1)), 2},
		{convex(square, point(5, 1)), 0},
		{convex(list(0, 0, 1, 1, 2, 2), point(4, 2)), 3},
		{convex(list(0, 0, 4, 0, 0, 4, 4, 4), point(1, 1)), 3},
		// Not convex with its last point, which is no vertex.
		{convex(list(0, 0, 4, 0, 0, 4), point(1, 1)), 2},
		{convex(parabola(64), point(3, 11)), 2},
		{fence(regions{box(allow, 0, 0, 4, 4)}, point(4, 4)), 1},
		{fence(regions{box(allow, 0, 0, 4, 4)}, point(5, 4)), 0},
		{fence(regions{box(allow, 0, 0, 4, 4), round(deny, 0, 0, 1)}, point(3, 3)), 1},
		{fence(regions{box(allow, 0, 0, 4, 4), round(deny, 0, 0, 1)}, point(1, 0)), 0},
		{fence(regions{discOf(allow, 0, 0, 1, 1, 2, 2)}, point(1, 1)), 2},
		{fence(regions{polygonOf(allow, 0, 0, 4, 0, 8, 0, 0, 4)}, point(5, 4)), 2},
		{fence(copies(64, api.Region{Vertices: 64, Points: parabola(64)}), point(3, 10)), 1},
	} {
		checkAnswer(t, c.r, c.want, api.OK)
	}
}

func TestAnswerErrors(t *testing.T) {
	square, ring := box(allow, 0, 0, 4, 4), round(deny, 0, 0, 1)
	one, three := make(points, 1), list(0, 0, 1, 0, 0, 1)
	change := func(r codec.Request, f func(*codec.Request)) codec.Request {
		r = cloned(r)
		f(&r)
		return r
	}
	both, many := fence(regions{square, ring}, point(3, 3)), batch(regions{square, ring}, 2)
	for i, c := range []struct {
		r    codec.Request
		want api.Errno
	}{
		{codec.Request{}, api.ErrOp},
		{codec.Request{Header: api.Header{Op: 6}, Points: three}, api.ErrOp},
		{codec.Request{Header: api.Header{Op: -1}, Points: three}, api.ErrOp},
		{codec.Request{Header: api.Header{Op: 257}, Points: three}, api.ErrOp},
		{codec.Request{Header: api.Header{Op: math.MinInt}, Points: three}, api.ErrOp},
		{codec.Request{Header: api.Header{Op: math.MaxInt}, Points: three}, api.ErrOp},
		{convex(list(0, 0, 4, 0), point(1, 1)), api.ErrCount},
		{convex(parabola(65), point(1, 1)), api.ErrCount},
		{fence(nil, point(1, 1)), api.ErrCount},
		{fence(copies(65, square), point(1, 1)), api.ErrCount},
		{fence(regions{square, {Vertices: 2, Points: list(0, 0, 1, 1)}}, point(1, 1)), api.ErrRegion},
		{codec.Request{Header: api.Header{Op: 4, Regions: regions{square}}, Regions: regions{square}, Points: one}, api.ErrArg},
		{codec.Request{Header: api.Header{Op: 1, Vertices: 3}, Points: three}, api.ErrArg},
		{codec.Request{Header: api.Header{Op: 2, Points: 1}, Points: make(points, 4)}, api.ErrArg},
		{orient(), api.ErrLength},
		{orient(three[:2]...), api.ErrLength},
		{orient(make(points, 4)...), api.ErrLength},
		{circle(three...), api.ErrLength},
		{circle(make(points, 5)...), api.ErrLength},
		{change(convex(three, point(1, 1)), func(r *codec.Request) { r.Points = three }), api.ErrLength},
		{change(convex(three, point(1, 1)), func(r *codec.Request) { r.Points = make(points, 5) }), api.ErrLength},
		{change(orient(three...), func(r *codec.Request) { r.Regions = regions{square} }), api.ErrLength},
		{change(orient(three...), func(r *codec.Request) { r.Queries = many.Queries }), api.ErrLength},
		{change(both, func(r *codec.Request) { r.Points = nil }), api.ErrLength},
		{change(both, func(r *codec.Request) { r.Points = make(points, 2) }), api.ErrLength},
		{change(both, func(r *codec.Request) { r.Regions = r.Regions[:1] }), api.ErrLength},
		{change(both, func(r *codec.Request) { r.Regions[1].Points = r.Regions[1].Points[:2] }), api.ErrLength},
		{change(both, func(r *codec.Request) { r.Regions[0].Deny = true; r.Regions[1].Points = nil }), api.ErrLength},
		{change(both, func(r *codec.Request) { r.Regions[0].Deny = true }), api.ErrArg},
		{change(both, func(r *codec.Request) { r.Regions[1].Vertices = 3 }), api.ErrArg},
		{many, api.ErrArg},
		{batch(regions{square}, 1), api.ErrArg},
		{batch(regions{discOf(allow, 0, 0, 1, 1, 2, 2)}, 4096), api.ErrArg},
		{batch(regions{square}, 0), api.ErrCount},
		{batch(regions{square}, 4097), api.ErrCount},
		{batch(nil, 1), api.ErrCount},
		{batch(regions{{Vertices: 2, Points: list(0, 0, 1, 1)}}, 1), api.ErrRegion},
		{change(many, func(r *codec.Request) { r.Header.Vertices = 3 }), api.ErrArg},
		{change(many, func(r *codec.Request) { r.Points = one }), api.ErrLength},
		{change(many, func(r *codec.Request) { r.Queries = r.Queries[:1] }), api.ErrLength},
		{change(many, func(r *codec.Request) { r.Regions[0].Points = nil }), api.ErrLength},
		{change(many, func(r *codec.Request) { r.Regions[0].Deny = true; r.Queries = nil }), api.ErrLength},
		{change(many, func(r *codec.Request) { r.Regions[0].Deny = true }), api.ErrArg},
	} {
		if _, errno := codec.Encode(c.r); errno != c.want && (errno != api.OK || c.want != api.ErrArg) {
			t.Errorf("case %d: Encode returns %v, want %v", i, errno, c.want)
		}
		checkAnswer(t, c.r, 0, c.want)
	}
}

// TestAnswerCombinations gives requests with each header the lists of requests with other headers, of which only some are requests.
func TestAnswerCombinations(t *testing.T) {
	square, triangle := box(allow, 0, 0, 4, 4), polygonOf(deny, 0, 0, 1, 0, 0, 1)
	l := []codec.Request{orient(parabola(3)...), circle(parabola(4)...), convex(parabola(3), point(1, 2)), convex(parabola(5), point(0, 0)), fence(regions{square}, point(4, 4)), fence(regions{square, triangle}, point(3, 3)), fence(regions{round(allow, 0, 0, 5)}, point(3, 3)), batch(regions{square}, 1), batch(regions{triangle, square}, 3), {}}
	answered := 0
	for _, a := range l {
		for _, b := range l {
			for _, c := range l {
				for _, d := range l {
					r := codec.Request{Header: a.Header, Regions: b.Regions, Points: c.Points, Queries: d.Queries}
					_, errno := codec.Encode(r)
					want := 0
					switch {
					case errno == api.OK && a.Header.Op == 5:
						errno = api.ErrArg
					case errno == api.OK:
						want, answered = value(r), answered+1
					}
					checkAnswer(t, r, want, errno)
				}
			}
		}
	}
	if answered < len(l)-3 {
		t.Errorf("only %d requests are answered", answered)
	}
}

// TestAnswer uses requests with points of all styles, which have each Value of each operation.
func TestAnswer(t *testing.T) {
	answered := map[[2]int]int{}
	for seed, h := range samples() {
		random := source(uint64(seed) + 1<<32)
		number := 3
		if h.Op < 3 {
			number = 1000
		}
		for range number {
			for style := range styles {
				r := requestFor(random, h, style)
				want := value(r)
				answered[[2]int{h.Op, want}]++
				checkAnswer(t, r, want, api.OK)
			}
		}
	}
	for op, most := range map[int]int{1: 2, 2: 2, 3: 3, 4: 2} {
		for x := range most + 1 {
			if answered[[2]int{op, x}] < 20 {
				t.Errorf("only %d requests of the operation %d have the Value %d", answered[[2]int{op, x}], op, x)
			}
		}
	}
}

// TestAnswerIsThatOfItsPart compares Answer with Convex and Fence.
func TestAnswerIsThatOfItsPart(t *testing.T) {
	for seed, h := range samples() {
		if h.Op < 3 {
			continue
		}
		random := source(uint64(seed) + 2<<32)
		for style := range styles {
			r := requestFor(random, h, style)
			x, y := tape.New(), tape.New()
			a, errno := engine.Answer(x, r)
			want := -1
			if last := len(r.Points) - 1; h.Op == 3 {
				want = engine.Convex(y, r.Points[:last], r.Points[last])
			} else {
				want = engine.Fence(y, r.Regions, r.Points[last])
			}
			if a.Value != want || errno != api.OK || !tape.Equal(x, y) {
				t.Errorf("Answer for %v and the points %d = %v and %v, want %d; the events are equal: %t", h, short(r.Points), a, errno, want, tape.Equal(x, y))
			}
		}
	}
}

// TestAnswersCanBeEncoded checks that the answers are some to their requests, as layer 18 says.
func TestAnswersCanBeEncoded(t *testing.T) {
	for seed, h := range samples() {
		random := source(uint64(seed) + 3<<32)
		for style := range styles {
			a, _ := engine.Answer(nil, requestFor(random, h, style))
			if b, errno := codec.Respond(h, a); errno != api.OK || len(b) != 2 || int(b[1]) != a.Value {
				t.Errorf("Respond for %v and %v = %d and %v", h, a, b, errno)
			}
		}
	}
}

// P19.3

func TestEventExamples(t *testing.T) {
	triangle := convex(list(0, 0, 4, 0, 0, 4), point(1, 1))
	mixed := fence(regions{round(allow, 0, 0, 5), polygonOf(deny, 0, 0, 1, 0, 0, 1)}, point(3, 3))
	for _, c := range []struct {
		r    codec.Request
		want [][3]int
	}{
		{triangle, [][3]int{{4, 0, 2}, {4, 1, 0}, {4, 2, 1}, {5, 0, 0}, {5, 1, 0}, {5, 2, 0}}},
		{convex(make(points, 3), point(0, 0)), [][3]int{{4, 0, 2}, {4, 1, 0}, {4, 2, 1}, {5, 0, 0}, {5, 1, 0}, {5, 2, 0}}},
		{convex(parabola(4), point(9, 9)), [][3]int{{4, 0, 2}, {4, 0, 3}, {4, 1, 0}, {4, 1, 3}, {4, 2, 0}, {4, 2, 1}, {4, 3, 1}, {4, 3, 2}, {5, 0, 0}, {5, 1, 0}, {5, 2, 0}, {5, 3, 0}}},
		{fence(regions{round(allow, 0, 0, 5)}, point(0, 0)), [][3]int{{7, 0, 0}, {4, 0, 2}, {7, 0, 1}, {6, 0, 0}}},
		{fence(regions{discOf(deny, 0, 0, 1, 1, 2, 2)}, point(0, 0)), [][3]int{{7, 0, 0}, {4, 0, 2}, {7, 0, 1}, {6, 0, 0}}},
		{mixed, [][3]int{{7, 0, 0}, {4, 0, 2}, {7, 1, 0}, {4, 0, 2}, {4, 1, 0}, {4, 2, 1}, {7, 0, 1}, {6, 0, 0}, {7, 1, 1}, {5, 0, 0}, {5, 1, 0}, {5, 2, 0}}},
		{orient(parabola(3)...), nil},
		{circle(parabola(4)...), nil},
		{orient(parabola(4)...), nil},
		{batch(regions{round(allow, 0, 0, 5)}, 1), nil},
		{fence(regions{{Vertices: 3}}, point(0, 0)), nil},
	} {
		var want events
		for _, f := range c.want {
			want = append(want, api.Event{Kind: f[0], A: f[1], B: f[2]})
		}
		if got := record(t, func(x *tape.Tape) { engine.Answer(x, c.r) }); !slices.Equal(got, want) {
			t.Errorf("Answer for %v and the points %d records %v, want %v", c.r.Header, c.r.Points, got, want)
		}
	}
}

// TestEventsDependOnHeadersOnly compares the events of requests with the same header, and of all of them on one tape.
func TestEventsDependOnHeadersOnly(t *testing.T) {
	for seed, h := range samples() {
		random, want, joined := source(uint64(seed)+4<<32), eventsOf(h), tape.New()
		for style := range styles {
			r := requestFor(random, h, style)
			if got := record(t, func(x *tape.Tape) { engine.Answer(x, r) }); !slices.Equal(got, want) {
				t.Errorf("Answer for %v and the points %d records %v, want %v", h, short(r.Points), short(got), short(want))
			}
			engine.Answer(joined, r)
		}
		if !slices.Equal(joined.Events(), slices.Repeat(want, styles)) {
			t.Errorf("%d calls for %v record %d events, want %d", styles, h, joined.Len(), styles*len(want))
		}
	}
}

// Rules

// TestPartsOfLists uses lists that are parts of longer ones, whose other elements would change the results.
func TestPartsOfLists(t *testing.T) {
	part := func(v points) points {
		whole := slices.Concat(list(-9, -9), v, list(-9, 9, 9, -9))
		return whole[1 : 1+len(v)]
	}
	square := box(allow, 0, 0, 4, 4)
	square.Points = part(square.Points)
	whole := regions{discOf(allow, 0, 0, 1, 1, 2, 2), square, box(deny, -9, -9, 9, 9)}
	checkConvex(t, square.Points, point(1, 1), 2)
	checkConvex(t, square.Points[:3], point(4, 3), 1)
	checkFence(t, whole[1:2], point(1, 1), 1)
	r := fence(whole[1:2], point(4, 4))
	r.Points = part(r.Points)
	checkAnswer(t, r, 1, api.OK)
	r = convex(square.Points, point(1, 1))
	r.Points = part(r.Points)
	checkAnswer(t, r, 2, api.OK)
	r = orient(part(list(0, 0, 1, 0, 0, 1))...)
	r.Regions, r.Queries = whole[:0], make([]api.Query, 3)[:0]
	checkAnswer(t, r, 2, api.OK)
	if whole[0].Points[1] != point(1, 1) || whole[2].Points[0] != point(-9, -9) || !slices.Equal(square.Points[:6], list(0, 0, 4, 0, 4, 4, 0, 4, -9, 9, 9, -9)) {
		t.Error("a call wrote beyond the length of a list")
	}
}

// TestCallsKeepNothing changes a request after a call, which must not change the answers to others.
func TestCallsKeepNothing(t *testing.T) {
	r := fence(regions{box(allow, 0, 0, 4, 4)}, point(1, 1))
	other := cloned(r)
	checkAnswer(t, r, 1, api.OK)
	clear(r.Regions[0].Points)
	checkAnswer(t, r, 2, api.OK)
	checkAnswer(t, other, 1, api.OK)
	other.Points[0] = point(9, 9)
	checkAnswer(t, other, 0, api.OK)
}

func TestConcurrentCalls(t *testing.T) {
	var requests []codec.Request
	for seed, h := range samples() {
		for style := range styles {
			requests = append(requests, requestFor(source(uint64(seed)), h, style))
		}
	}
	var want []int
	for _, r := range requests {
		a, _ := engine.Answer(nil, r)
		want = append(want, a.Value)
	}
	var group sync.WaitGroup
	for range 8 {
		group.Go(func() {
			for i, r := range requests {
				x := tape.New()
				a, errno := engine.Answer(x, r)
				if a.Value != want[i] || errno != api.OK || !slices.Equal(x.Events(), eventsOf(r.Header)) {
					t.Errorf("a concurrent call for %v returns or records something else", r.Header)
				}
			}
		})
	}
	group.Wait()
}
