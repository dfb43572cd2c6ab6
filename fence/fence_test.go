package fence_test

import (
	"math"
	"math/rand/v2"
	"slices"
	"sync"
	"testing"

	"geofence/api"
	"geofence/disc"
	"geofence/fence"
	"geofence/polygon"
	"geofence/tape"
)

const (
	all      = 1<<64 - 1
	least    = math.MinInt64
	greatest = math.MaxInt64

	allow = false
	deny  = true
)

// list names the type of the lists of points shortly, and regions that of fences.
type (
	list    = []api.Point
	regions = []api.Region
)

func point(x, y int64) api.Point { return api.Point{X: x, Y: y} }

// points returns the points with the given coordinates.
func points(coordinates ...int64) list {
	var v list
	for c := range slices.Chunk(coordinates, 2) {
		v = append(v, point(c[0], c[1]))
	}
	return v
}

// grid returns all points with the given coordinates.
func grid(coordinates ...int64) list {
	var v list
	for _, x := range coordinates {
		for _, y := range coordinates {
			v = append(v, point(x, y))
		}
	}
	return v
}

// from returns the numbers from low to high.
func from(low, high int64) []int64 {
	var l []int64
	for x := low; x <= high; x++ {
		l = append(l, x)
	}
	return l
}

func source(seed uint64) *rand.Rand { return rand.New(rand.NewPCG(seed, 16)) }

// ordinary returns n points from the whole range, and the same ones for the same seed.
func ordinary(n int, seed uint64) list {
	random := source(seed)
	var v list
	for range n {
		v = append(v, point(int64(random.Uint64()), int64(random.Uint64())))
	}
	return v
}

// parabola returns n points of a parabola, which are a strictly convex polygon.
func parabola(n int) list {
	var v list
	for i := range int64(n) {
		v = append(v, point(2*i, 4*i*i))
	}
	return v
}

// polygonOf returns the region of the polygon with the given coordinates.
func polygonOf(denies bool, coordinates ...int64) api.Region {
	return api.Region{Deny: denies, Vertices: len(coordinates) / 2, Points: points(coordinates...)}
}

// discOf returns the region of the disc with the given coordinates.
func discOf(denies bool, coordinates ...int64) api.Region {
	return api.Region{Deny: denies, Points: points(coordinates...)}
}

// box returns the rectangle with the opposite corners (a, b) and (c, d).
func box(denies bool, a, b, c, d int64) api.Region {
	return polygonOf(denies, a, b, c, b, c, d, a, d)
}

// round returns the disc with the centre (x, y) and the radius r.
func round(denies bool, x, y, r int64) api.Region {
	return discOf(denies, x+r, y, x, y+r, x-r, y)
}

// copies returns a fence of n equal regions.
func copies(n int, g api.Region) regions { return slices.Repeat(regions{g}, n) }

// cloned returns l in memory of its own.
func cloned(l regions) regions {
	m := slices.Clone(l)
	for i := range m {
		m[i].Points = slices.Clone(m[i].Points)
	}
	return m
}

func equalRegions(g, h api.Region) bool {
	return g.Deny == h.Deny && g.Vertices == h.Vertices && slices.Equal(g.Points, h.Points)
}

// swapped returns l with allow instead of deny regions, and the other way round.
func swapped(l regions) regions {
	m := slices.Clone(l)
	for i := range m {
		m[i].Deny = !m[i].Deny
	}
	return m
}

// orders returns all orders of a list.
func orders(l regions) []regions {
	if len(l) == 0 {
		return []regions{nil}
	}
	var r []regions
	for _, rest := range orders(l[1:]) {
		for i := range l {
			r = append(r, slices.Insert(slices.Clone(rest), i, l[0]))
		}
	}
	return r
}

func of(holds bool) uint64 {
	if holds {
		return all
	}
	return 0
}

// sizeOf returns what Size should return for a region with these Vertices.
func sizeOf(vertices int) int {
	if vertices == 0 {
		return 3
	}
	if vertices < 3 || vertices > 64 {
		return 0
	}
	return vertices
}

// check returns what Check should return.
func check(l regions) api.Errno {
	if len(l) == 0 || len(l) > 64 {
		return api.ErrCount
	}
	for _, g := range l {
		if sizeOf(g.Vertices) == 0 {
			return api.ErrRegion
		}
		if len(g.Points) != sizeOf(g.Vertices) {
			return api.ErrLength
		}
	}
	return api.OK
}

// isValid returns whether Check should return OK for l, and all its polygons and discs are valid.
func isValid(l regions) bool {
	if check(l) != api.OK {
		return false
	}
	for _, g := range l {
		valid := uint64(0)
		if g.Vertices == 0 {
			valid = disc.Valid(nil, g.Points)
		} else {
			valid = polygon.Valid(nil, g.Points)
		}
		if valid == 0 {
			return false
		}
	}
	return true
}

// closed returns whether Locate of a region and p is 0 or 1.
func closed(g api.Region, p api.Point) bool {
	if g.Vertices == 0 {
		return disc.Locate(nil, g.Points, p) >= 0
	}
	return polygon.Locate(nil, g.Points, p) >= 0
}

// isMember returns whether Check should return OK for l, Locate allows p, and no Locate denies it.
func isMember(l regions, p api.Point) bool {
	if check(l) != api.OK {
		return false
	}
	allows, denies := false, false
	for _, g := range l {
		if g.Deny {
			denies = denies || closed(g, p)
		} else {
			allows = allows || closed(g, p)
		}
	}
	return allows && !denies
}

// edgeEvents returns the events of the validation of a region with these Vertices.
func edgeEvents(vertices int) []api.Event {
	if vertices == 0 {
		return []api.Event{{Kind: api.Edge, A: 0, B: 2}}
	}
	var l []api.Event
	for i := range vertices {
		for j := range vertices {
			if j != i && j != (i+1)%vertices {
				l = append(l, api.Event{Kind: api.Edge, A: i, B: j})
			}
		}
	}
	return l
}

// sideEvents returns the events of the location of a point relative to a region with these Vertices.
func sideEvents(vertices int) []api.Event {
	if vertices == 0 {
		return []api.Event{{Kind: api.Circle, A: 0, B: 0}}
	}
	var l []api.Event
	for i := range vertices {
		l = append(l, api.Event{Kind: api.Side, A: i, B: 0})
	}
	return l
}

// validEvents returns the events that Valid should record.
func validEvents(l regions) []api.Event {
	var events []api.Event
	for i, g := range l {
		if check(l) == api.OK {
			events = append(events, api.Event{Kind: api.Area, A: i, B: 0})
			events = append(events, edgeEvents(g.Vertices)...)
		}
	}
	return events
}

// memberEvents returns the events that Member should record.
func memberEvents(l regions) []api.Event {
	var events []api.Event
	for i, g := range l {
		if check(l) == api.OK {
			events = append(events, api.Event{Kind: api.Area, A: i, B: 1})
			events = append(events, sideEvents(g.Vertices)...)
		}
	}
	return events
}

// strange are Vertices that no region has. Some of them would be permitted as numbers of 8, 16 or 32 bits.
var strange = []int{1, 2, 65, 66, 127, 128, 131, 192, 256, 256 + 3, 256 + 64, 1 << 16, 1<<16 + 3, 1 << 32, 1<<32 + 3, 1<<32 + 64, 1 << 62, math.MaxInt, math.MaxInt - 63, -1, -2, -3, -4, -63, -64, -65, -253, -256, -1<<32 + 3, -1 << 62, math.MinInt, math.MinInt + 3}

// invalid are fences for which Check returns OK, but which are not valid, as at least one of their regions is not.
func invalid() []regions {
	good, far := box(allow, 0, 0, 9, 9), round(deny, 40, 40, 5)
	var l []regions
	for _, bad := range []api.Region{
		discOf(allow, 0, 0, 1, 1, 2, 2),
		discOf(allow, 3, 4, 3, 4, 5, 0),
		discOf(allow, 7, 7, 7, 7, 7, 7),
		discOf(allow, least, least, 0, 0, greatest, greatest),
		polygonOf(allow, 0, 0, 1, 1, 2, 2),
		polygonOf(allow, 0, 0, 4, 4, 4, 0, 0, 4),
		polygonOf(allow, 0, 0, 4, 0, 1, 1, 0, 4),
		polygonOf(allow, 0, 0, 2, 0, 4, 0, 4, 4, 0, 4),
		polygonOf(allow, 0, 0, 4, 0, 4, 4, 0, 4, 0, 2),
		polygonOf(allow, 0, 0, 0, 0, 0, 0, 0, 0),
		{Vertices: 64, Points: make(list, 64)},
	} {
		l = append(l, regions{bad}, regions{bad, good}, regions{good, bad}, regions{far, bad, good}, regions{bad, bad}, regions{good, far, bad})
	}
	for _, m := range slices.Clone(l) {
		l = append(l, swapped(m))
	}
	return l
}

// wrong are fences for which Check returns an error.
func wrong() []regions {
	good, ring := box(allow, 0, 0, 9, 9), round(deny, 4, 4, 1)
	l := []regions{nil, {}, make(regions, 0, 3), copies(65, good), copies(65, ring), copies(66, good), copies(256, good), copies(257, ring), copies(1<<16+1, good)}
	for _, n := range []int{1, 2, 3, 64, 65} {
		l = append(l, make(regions, n))
	}
	for _, bad := range slices.Concat(strangeRegions(), shortRegions()) {
		l = append(l, regions{bad}, regions{good, bad}, regions{bad, good}, regions{good, ring, bad}, append(copies(63, good), bad))
	}
	return l
}

// strangeRegions are regions whose Vertices no region has.
func strangeRegions() regions {
	var l regions
	for _, n := range strange {
		for _, v := range []list{nil, parabola(1), parabola(2), parabola(3), parabola(4), parabola(64), parabola(65)} {
			l = append(l, api.Region{Vertices: n, Points: v}, api.Region{Deny: true, Vertices: n, Points: v})
		}
	}
	return l
}

// shortRegions are regions with too few or too many points.
func shortRegions() regions {
	var l regions
	for _, n := range []int{0, 3, 4, 5, 63, 64} {
		size := sizeOf(n)
		for _, other := range []int{0, 1, 2, size - 1, size + 1, 2 * size, 64, 65, 256 + size, 1<<16 + size} {
			if other != size {
				l = append(l, api.Region{Vertices: n, Points: parabola(other)}, api.Region{Deny: true, Vertices: n, Points: parabola(other)})
			}
		}
	}
	return append(l, api.Region{Vertices: 3, Points: make(list, 2, 3)}, api.Region{Points: make(list, 4)[:0]})
}

// P16.1

func TestSizeExamples(t *testing.T) {
	for n, want := range map[int]int{-3: 0, -1: 0, 0: 3, 1: 0, 2: 0, 3: 3, 4: 4, 5: 5, 32: 32, 63: 63, 64: 64, 65: 0, 66: 0} {
		if got := fence.Size(api.Region{Vertices: n}); got != want {
			t.Errorf("Size with %d vertices = %d, want %d", n, got, want)
		}
	}
}

func TestSize(t *testing.T) {
	l := slices.Clone(strange)
	for n := -400; n <= 400; n++ {
		l = append(l, n)
	}
	for _, n := range l {
		for _, v := range []list{nil, parabola(3), parabola(7), parabola(64)} {
			for _, denies := range []bool{allow, deny} {
				if got, want := fence.Size(api.Region{Deny: denies, Vertices: n, Points: v}), sizeOf(n); got != want {
					t.Errorf("Size with %d vertices and %d points = %d, want %d", n, len(v), got, want)
				}
			}
		}
	}
}

// P16.2

func TestCheckExamples(t *testing.T) {
	good, ring := box(allow, 0, 0, 4, 4), round(deny, 0, 0, 5)
	none := api.Region{Vertices: 2, Points: parabola(2)}
	few := api.Region{Vertices: 5, Points: parabola(4)}
	for i, c := range []struct {
		l    regions
		want api.Errno
	}{
		{nil, api.ErrCount},
		{regions{}, api.ErrCount},
		{regions{good}, api.OK},
		{regions{ring}, api.OK},
		{copies(64, good), api.OK},
		{copies(64, ring), api.OK},
		{copies(65, good), api.ErrCount},
		{copies(65, none), api.ErrCount},
		{copies(65, few), api.ErrCount},
		{regions{none}, api.ErrRegion},
		{regions{few}, api.ErrLength},
		{regions{none, few}, api.ErrRegion},
		{regions{few, none}, api.ErrLength},
		{regions{good, none, few}, api.ErrRegion},
		{regions{good, few, none}, api.ErrLength},
		{regions{good, ring, good, none}, api.ErrRegion},
		{regions{good, ring, good, few}, api.ErrLength},
		{append(copies(63, good), none), api.ErrRegion},
		{append(copies(63, ring), few), api.ErrLength},
		{append(copies(64, good), none), api.ErrCount},
		{regions{{Vertices: 1}}, api.ErrRegion},
		{regions{{Vertices: 2}}, api.ErrRegion},
		{regions{{Vertices: -1}}, api.ErrRegion},
		{regions{{Vertices: 65, Points: parabola(65)}}, api.ErrRegion},
		{regions{{Vertices: math.MaxInt}}, api.ErrRegion},
		{regions{{Vertices: math.MinInt}}, api.ErrRegion},
		{regions{{}}, api.ErrLength},
		{regions{{Deny: true}}, api.ErrLength},
		{regions{{Points: parabola(2)}}, api.ErrLength},
		{regions{{Points: parabola(4)}}, api.ErrLength},
		{regions{{Vertices: 3}}, api.ErrLength},
		{regions{{Vertices: 3, Points: parabola(4)}}, api.ErrLength},
		{regions{{Vertices: 64, Points: parabola(63)}}, api.ErrLength},
		{regions{{Vertices: 64, Points: parabola(65)}}, api.ErrLength},
		{regions{{Vertices: 64, Points: parabola(64)}}, api.OK},
		{regions{{Vertices: 3, Points: make(list, 3)}}, api.OK},
		{regions{{Points: make(list, 3)}}, api.OK},
	} {
		if got := fence.Check(c.l); got != c.want {
			t.Errorf("Check of fence %d = %v, want %v", i, got, c.want)
		}
	}
}

func TestCheckNumbersOfRegions(t *testing.T) {
	for _, g := range (regions{box(allow, 0, 0, 1, 1), round(deny, 0, 0, 1), {Vertices: 2}, {}}) {
		for _, n := range []int{0, 1, 2, 3, 16, 63, 64, 65, 66, 127, 128, 255, 256, 257, 256 + 64, 1<<16 + 1} {
			if l := copies(n, g); fence.Check(l) != check(l) {
				t.Errorf("Check of %d regions = %v, want %v", n, fence.Check(l), check(l))
			}
		}
	}
}

// TestCheckRegions uses each number of vertices with each number of points.
func TestCheckRegions(t *testing.T) {
	for n := -2; n <= 67; n++ {
		for size := range 70 {
			for _, denies := range []bool{allow, deny} {
				l := regions{{Deny: denies, Vertices: n, Points: make(list, size)}}
				if got, want := fence.Check(l), check(l); got != want {
					t.Errorf("Check of a region with %d vertices and %d points = %v, want %v", n, size, got, want)
				}
			}
		}
	}
	for _, g := range slices.Concat(strangeRegions(), shortRegions()) {
		if got, want := fence.Check(regions{g}), check(regions{g}); got != want || got == api.OK {
			t.Errorf("Check of a region with %d vertices and %d points = %v, want %v", g.Vertices, len(g.Points), got, want)
		}
	}
}

// TestCheckReturnsTheFirstError uses all lists of three regions of different kinds, and regions with errors at two places of a fence.
func TestCheckReturnsTheFirstError(t *testing.T) {
	kinds := regions{box(allow, 0, 0, 4, 4), round(deny, 0, 0, 5), {Vertices: 2}, {Vertices: 65, Points: parabola(65)}, {Vertices: 4, Points: parabola(3)}, {Points: parabola(4)}}
	for _, a := range kinds {
		for _, b := range kinds {
			for _, c := range kinds {
				l := regions{a, b, c}
				if got, want := fence.Check(l), check(l); got != want {
					t.Errorf("Check of %v = %v, want %v", l, got, want)
				}
			}
			for i := range 63 {
				l := copies(64, kinds[0])
				l[i], l[63] = a, b
				if got, want := fence.Check(l), check(l); got != want {
					t.Errorf("Check of 64 regions with %v and %v = %v, want %v", a, b, got, want)
				}
			}
		}
	}
}

// TestCheckDependsOnPublicDataOnly uses points that determine regions, and others.
func TestCheckDependsOnPublicDataOnly(t *testing.T) {
	for _, n := range []int{0, 3, 4, 17, 64} {
		size := sizeOf(n)
		for seed, v := range []list{parabola(size), make(list, size), ordinary(size, 1), slices.Repeat(points(least, greatest), size)} {
			for _, denies := range []bool{allow, deny} {
				if got := fence.Check(regions{{Deny: denies, Vertices: n, Points: v}}); got != api.OK {
					t.Errorf("Check of a region with %d vertices and the points %d = %v, want OK", n, seed, got)
				}
			}
		}
	}
}

// P16.3

// checkValid compares Valid with what it should return and record, and looks whether the fence remains.
func checkValid(t *testing.T, l regions) {
	t.Helper()
	kept, x := cloned(l), tape.New()
	if got, want := fence.Valid(x, l), of(isValid(l)); got != want {
		t.Errorf("Valid of %d regions %v = %x, want %x", len(l), l[:min(len(l), 3)], got, want)
	}
	if got, want := x.Events(), validEvents(l); !slices.Equal(got, want) {
		t.Errorf("Valid of %d regions %v records %v, want %v", len(l), l[:min(len(l), 3)], got, want)
	}
	if !slices.EqualFunc(l, kept, equalRegions) {
		t.Errorf("Valid changed %v to %v", kept, l)
	}
}

func TestValidExamples(t *testing.T) {
	square, ring := box(allow, 0, 0, 4, 4), discOf(deny, 1, 0, 0, 1, -1, 0)
	straight := discOf(deny, 0, 0, 1, 1, 2, 2)
	bent := polygonOf(deny, 0, 0, 4, 0, 1, 1, 0, 4)
	for _, c := range []struct {
		l    regions
		want uint64
	}{
		{regions{square}, all},
		{regions{ring}, all},
		{regions{square, ring}, all},
		{regions{ring, square}, all},
		{regions{square, square, ring, ring}, all},
		{regions{box(allow, 4, 0, 0, 4)}, all},
		{regions{box(allow, least, least, greatest, greatest)}, all},
		{regions{discOf(allow, least, least, greatest, least, greatest, greatest)}, all},
		{regions{{Vertices: 64, Points: parabola(64)}}, all},
		{copies(64, square), all},
		{copies(64, ring), all},
		{regions{straight}, 0},
		{regions{bent}, 0},
		{regions{square, straight}, 0},
		{regions{straight, square}, 0},
		{regions{ring, bent}, 0},
		{regions{bent, ring}, 0},
		{regions{square, bent, ring}, 0},
		{append(copies(63, square), straight), 0},
		{append(copies(63, ring), bent), 0},
		{append(regions{bent}, copies(63, ring)...), 0},
		{regions{square, polygonOf(allow, 0, 0, 4, 0, 2, 0)}, 0},
		// The first three of these vertices would determine a disc.
		{regions{polygonOf(allow, 0, 0, 4, 0, 0, 4, 4, 4)}, 0},
	} {
		if got := fence.Valid(nil, c.l); got != c.want {
			t.Errorf("Valid of %d regions %v = %x, want %x", len(c.l), c.l[:min(len(c.l), 3)], got, c.want)
		}
		if got := fence.Valid(nil, swapped(c.l)); got != c.want {
			t.Errorf("Valid of %d regions %v with other Deny = %x, want %x", len(c.l), c.l[:min(len(c.l), 3)], got, c.want)
		}
	}
}

func TestValid(t *testing.T) {
	for _, l := range invalid() {
		checkValid(t, l)
		if fence.Check(l) != api.OK || fence.Valid(nil, l) != 0 {
			t.Errorf("Valid of %v = %x, want 0", l, fence.Valid(nil, l))
		}
	}
	for seed := range uint64(300) {
		l, _ := someFence(seed)
		checkValid(t, l)
		checkValid(t, anyFence(seed))
	}
}

// TestValidOneInvalidRegion uses fences in which exactly the region at one place is invalid.
func TestValidOneInvalidRegion(t *testing.T) {
	for _, n := range []int{1, 2, 3, 7, 64} {
		for i := range n {
			for _, bad := range (regions{discOf(allow, 0, 0, 1, 1, 2, 2), polygonOf(deny, 0, 0, 2, 0, 4, 0, 0, 4)}) {
				l := copies(n, box(allow, 0, 0, 4, 4))
				l[n/2] = round(deny, 0, 0, 5)
				l[i] = bad
				checkValid(t, l)
			}
		}
	}
}

func TestValidManyVertices(t *testing.T) {
	for n := 3; n <= 64; n++ {
		checkValid(t, regions{{Vertices: n, Points: parabola(n)}, round(deny, 0, 0, 5), {Deny: true, Vertices: 67 - n, Points: parabola(67 - n)}})
		checkValid(t, regions{{Vertices: n, Points: make(list, n)}})
	}
	checkValid(t, copies(64, api.Region{Vertices: 64, Points: parabola(64)}))
}

// P16.3 and P16.4

func TestWrongFences(t *testing.T) {
	for _, l := range wrong() {
		e, x := fence.Check(l), tape.New()
		x.Note(99, -1, -2)
		valid, member := fence.Valid(x, l), fence.Member(x, l, point(1, 3))
		if e == api.OK || valid != 0 || member != 0 || x.Len() != 1 {
			t.Errorf("for %d regions %v, Check = %v, Valid = %x, Member = %x, and there are %d events", len(l), l[:min(len(l), 3)], e, valid, member, x.Len()-1)
		}
		if fence.Valid(nil, l) != 0 || fence.Member(nil, l, point(1, 3)) != 0 {
			t.Errorf("Valid or Member of %d regions %v is not 0 without a tape", len(l), l[:min(len(l), 3)])
		}
	}
}

// P16.4

// checkMember compares Member with what it should return and record, and looks whether the fence remains.
func checkMember(t *testing.T, l regions, p api.Point) {
	t.Helper()
	kept, x := cloned(l), tape.New()
	if got, want := fence.Member(x, l, p), of(isMember(l, p)); got != want {
		t.Errorf("Member of %d regions %v and %d = %x, want %x", len(l), l[:min(len(l), 3)], p, got, want)
	}
	if got, want := x.Events(), memberEvents(l); !slices.Equal(got, want) {
		t.Errorf("Member of %d regions %v and %d records %v, want %v", len(l), l[:min(len(l), 3)], p, got, want)
	}
	if !slices.EqualFunc(l, kept, equalRegions) {
		t.Errorf("Member changed %v to %v", kept, l)
	}
}

func TestMemberExamples(t *testing.T) {
	square, ring := box(allow, 0, 0, 4, 4), discOf(deny, 1, 0, 0, 1, -1, 0)
	chapter := regions{square, ring}
	hole := regions{box(allow, 0, 0, 10, 10), round(allow, 12, 5, 4), box(deny, 4, 4, 6, 6), round(deny, 12, 5, 2)}
	wide := regions{box(allow, least, least, greatest, greatest), box(deny, least, least, greatest-1, greatest)}
	circled := regions{discOf(allow, least, least, greatest, least, greatest, greatest), round(deny, 0, 0, 1)}
	for _, c := range []struct {
		l    regions
		p    api.Point
		want uint64
	}{
		{chapter, point(3, 3), all},
		{chapter, point(1, 0), 0},
		{chapter, point(5, 5), 0},
		{chapter, point(0, 0), 0},
		{chapter, point(0, 1), 0},
		{chapter, point(1, 1), all},
		{chapter, point(2, 0), all},
		{chapter, point(4, 4), all},
		{chapter, point(0, 4), all},
		{chapter, point(-1, 0), 0},
		{chapter, point(-2, 0), 0},
		{regions{ring, square}, point(3, 3), all},
		{regions{ring, square}, point(1, 0), 0},
		{regions{square}, point(4, 2), all},
		{regions{square}, point(2, 2), all},
		{regions{square}, point(5, 2), 0},
		{swapped(regions{square}), point(2, 2), 0},
		{swapped(regions{square}), point(4, 2), 0},
		{swapped(regions{square}), point(5, 2), 0},
		{swapped(regions{ring}), point(1, 0), all},
		{swapped(regions{ring}), point(0, 0), all},
		{swapped(regions{ring}), point(1, 1), 0},
		{regions{ring}, point(0, 0), 0},
		{regions{ring}, point(9, 9), 0},
		{regions{square, swapped(regions{square})[0]}, point(2, 2), 0},
		{hole, point(3, 3), all},
		{hole, point(4, 4), 0},
		{hole, point(5, 5), 0},
		{hole, point(5, 7), all},
		{hole, point(9, 5), all},
		{hole, point(10, 5), 0},
		{hole, point(12, 5), 0},
		{hole, point(12, 7), 0},
		{hole, point(12, 8), all},
		{hole, point(16, 5), all},
		{hole, point(17, 5), 0},
		{hole, point(15, 8), 0},
		{wide, point(greatest, 0), all},
		{wide, point(greatest, least), all},
		{wide, point(greatest-1, 0), 0},
		{wide, point(least, least), 0},
		{circled, point(least, greatest), all},
		{circled, point(1, 1), all},
		{circled, point(0, 1), 0},
		{circled, point(0, 0), 0},
		{regions{{Vertices: 64, Points: parabola(64)}}, point(3, 10), all},
		{regions{{Vertices: 64, Points: parabola(64)}}, point(3, 9), 0},
	} {
		if fence.Valid(nil, c.l) != all {
			t.Errorf("%v is not valid", c.l)
		}
		if got := fence.Member(nil, c.l, c.p); got != c.want {
			t.Errorf("Member of %v and %d = %x, want %x", c.l, c.p, got, c.want)
		}
	}
}

// TestMemberOfInvalidFences uses regions for which Locate is 0 everywhere, and a polygon that is not convex.
func TestMemberOfInvalidFences(t *testing.T) {
	square := box(allow, 0, 0, 4, 4)
	straight, flat := discOf(allow, 0, 0, 1, 1, 2, 2), polygonOf(allow, 0, 0, 2, 0, 4, 0, 4, 4, 0, 4)
	bent := polygonOf(allow, 0, 0, 4, 0, 1, 1, 0, 4)
	for _, c := range []struct {
		l    regions
		p    api.Point
		want uint64
	}{
		{regions{straight}, point(1, 1), all},
		{regions{straight}, point(9, 0), all},
		{regions{straight}, point(least, greatest), all},
		{regions{flat}, point(1, 1), all},
		{regions{flat}, point(9, 9), all},
		{append(swapped(regions{straight}), square), point(1, 1), 0},
		{append(swapped(regions{straight}), square), point(4, 1), 0},
		{append(swapped(regions{flat}), square), point(3, 1), 0},
		{regions{square, straight}, point(9, 9), all},
		{append(swapped(regions{square}), straight), point(9, 9), all},
		{append(swapped(regions{square}), straight), point(2, 2), 0},
		{regions{bent}, point(1, 0), all},
		{regions{bent}, point(0, 3), 0},
		{append(swapped(regions{bent}), square), point(1, 0), 0},
		{append(swapped(regions{bent}), square), point(0, 3), all},
	} {
		if fence.Check(c.l) != api.OK || fence.Valid(nil, c.l) != 0 {
			t.Errorf("%v is valid or no fence", c.l)
		}
		if got := fence.Member(nil, c.l, c.p); got != c.want {
			t.Errorf("Member of %v and %d = %x, want %x", c.l, c.p, got, c.want)
		}
	}
	for _, l := range invalid() {
		for _, p := range slices.Concat(grid(-1, 0, 1, 2, 3, 4, 9, 40), points(least, greatest), l[0].Points) {
			checkMember(t, l, p)
		}
	}
}

// cover returns whether a point is in a closed region, without the lower layers.
type cover func(p api.Point) bool

// someRegion returns a valid region whose points have small coordinates, and what it covers.
func someRegion(random *rand.Rand) (api.Region, cover) {
	x, y, r := random.Int64N(9), random.Int64N(9), 1+random.Int64N(4)
	denies := random.IntN(3) == 0
	switch random.IntN(4) {
	case 0:
		return round(denies, x, y, r), func(p api.Point) bool { return (p.X-x)*(p.X-x)+(p.Y-y)*(p.Y-y) <= r*r }
	case 1:
		return box(denies, x, y, x+r, y+2), func(p api.Point) bool { return x <= p.X && p.X <= x+r && y <= p.Y && p.Y <= y+2 }
	case 2:
		return polygonOf(denies, x, y, x, y+r, x+r, y), func(p api.Point) bool { return x <= p.X && y <= p.Y && p.X-x+p.Y-y <= r }
	}
	diamond := polygonOf(denies, x+r, y, x, y+r, x-r, y, x, y-r)
	return diamond, func(p api.Point) bool { return max(p.X-x, x-p.X)+max(p.Y-y, y-p.Y) <= r }
}

// someFence returns a valid fence, and what its regions cover.
func someFence(seed uint64) (regions, []cover) {
	random := source(seed)
	l, covers := make(regions, 1+seed%7), make([]cover, 1+seed%7)
	for i := range l {
		l[i], covers[i] = someRegion(random)
	}
	return l, covers
}

// anyFence returns a fence for which Check returns OK, of points of the whole range that need not determine its regions.
func anyFence(seed uint64) regions {
	random := source(seed)
	var l regions
	for i := range 1 + seed%5 {
		vertices := []int{0, 3, 3, 4}[random.IntN(4)]
		l = append(l, api.Region{Deny: random.IntN(3) == 0, Vertices: vertices, Points: ordinary(sizeOf(vertices), seed<<8+i)})
	}
	return l
}

// TestMemberOfCoveredPoints compares Member with the points that the regions of valid fences cover.
func TestMemberOfCoveredPoints(t *testing.T) {
	for seed := range uint64(200) {
		l, covers := someFence(seed)
		for _, p := range grid(from(-3, 13)...) {
			allowed, denied := false, false
			for i, g := range l {
				in := covers[i](p)
				allowed = allowed || in && !g.Deny
				denied = denied || in && g.Deny
			}
			if got, want := fence.Member(nil, l, p), of(allowed && !denied); got != want {
				t.Errorf("Member of %v and %d = %x, want %x", l, p, got, want)
			}
		}
	}
}

func TestMember(t *testing.T) {
	for seed := range uint64(300) {
		l := anyFence(seed)
		for _, p := range slices.Concat(ordinary(5, ^seed), l[0].Points, grid(least, 0, greatest)) {
			checkMember(t, l, p)
		}
		l, _ = someFence(seed)
		for _, p := range slices.Concat(grid(0, 4), l[len(l)-1].Points) {
			checkMember(t, l, p)
		}
	}
}

// TestMemberOneRegionDecides uses fences in which only the region at one place covers a point, or only it does not.
func TestMemberOneRegionDecides(t *testing.T) {
	for _, n := range []int{1, 2, 3, 7, 64} {
		for i := range n {
			for _, shift := range []int64{0, 1, 2} { // the point is inside the other regions, on their boundaries, or outside
				p := point(2-shift, 2)
				for _, g := range (regions{box(allow, -1, 1, 1, 3), round(allow, 0, 2, 1), round(deny, 0, 2, 1), box(deny, -1, 1, 1, 3)}) {
					for _, other := range (regions{box(allow, 2, 1, 4, 3), round(deny, 3, 2, 1), round(allow, 3, 2, 1)}) {
						l := copies(n, other)
						l[i] = g
						checkMember(t, l, p)
					}
				}
			}
		}
	}
}

func TestMemberManyVertices(t *testing.T) {
	for n := 3; n <= 64; n++ {
		l := regions{{Vertices: n, Points: parabola(n)}, round(deny, 2, 4, 1), {Deny: true, Vertices: 67 - n, Points: parabola(67 - n)}}
		for _, p := range slices.Concat(points(1, 2, 1, 3, 2, 5, 2, 6, 9, 9), parabola(n)[n-1:]) {
			checkMember(t, l, p)
			checkMember(t, l[:2], p)
			checkMember(t, regions{{Vertices: n, Points: ordinary(n, uint64(n))}}, p)
		}
	}
	checkMember(t, copies(64, api.Region{Vertices: 64, Points: parabola(64)}), point(3, 10))
}

// Events of P16.3 to P16.5

func TestEventExamples(t *testing.T) {
	triangle := api.Region{Vertices: 3, Points: points(0, 0, 1, 0, 0, 1)}
	square, ring := box(deny, 0, 0, 4, 4), round(allow, 0, 0, 5)
	for _, c := range []struct {
		l             regions
		valid, member [][3]int
	}{
		{regions{ring}, [][3]int{{7, 0, 0}, {4, 0, 2}}, [][3]int{{7, 0, 1}, {6, 0, 0}}},
		{regions{triangle}, [][3]int{{7, 0, 0}, {4, 0, 2}, {4, 1, 0}, {4, 2, 1}}, [][3]int{{7, 0, 1}, {5, 0, 0}, {5, 1, 0}, {5, 2, 0}}},
		{regions{ring, square, ring},
			[][3]int{{7, 0, 0}, {4, 0, 2}, {7, 1, 0}, {4, 0, 2}, {4, 0, 3}, {4, 1, 0}, {4, 1, 3}, {4, 2, 0}, {4, 2, 1}, {4, 3, 1}, {4, 3, 2}, {7, 2, 0}, {4, 0, 2}},
			[][3]int{{7, 0, 1}, {6, 0, 0}, {7, 1, 1}, {5, 0, 0}, {5, 1, 0}, {5, 2, 0}, {5, 3, 0}, {7, 2, 1}, {6, 0, 0}}},
		{regions{triangle, {Deny: true, Points: make(list, 3)}},
			[][3]int{{7, 0, 0}, {4, 0, 2}, {4, 1, 0}, {4, 2, 1}, {7, 1, 0}, {4, 0, 2}},
			[][3]int{{7, 0, 1}, {5, 0, 0}, {5, 1, 0}, {5, 2, 0}, {7, 1, 1}, {6, 0, 0}}},
		{regions{triangle, {Vertices: 2}}, nil, nil},
		{nil, nil, nil},
	} {
		x, y := tape.New(), tape.New()
		fence.Valid(x, c.l)
		fence.Member(y, c.l, point(1, 1))
		if got, want := x.Events(), eventsOf(c.valid); !slices.Equal(got, want) {
			t.Errorf("Valid of %v records %v, want %v", c.l, got, want)
		}
		if got, want := y.Events(), eventsOf(c.member); !slices.Equal(got, want) {
			t.Errorf("Member of %v records %v, want %v", c.l, got, want)
		}
	}
}

// eventsOf returns the events with these kinds and operands.
func eventsOf(fields [][3]int) []api.Event {
	var l []api.Event
	for _, f := range fields {
		l = append(l, api.Event{Kind: f[0], A: f[1], B: f[2]})
	}
	return l
}

// TestEventsAreThoseOfTheRegions compares the events with those that the functions of polygons and discs record.
func TestEventsAreThoseOfTheRegions(t *testing.T) {
	for seed := range uint64(50) {
		l, p := anyFence(seed), point(1, 2)
		want, got := tape.New(), tape.New()
		for i, g := range l {
			want.Note(api.Area, i, 0)
			if g.Vertices == 0 {
				disc.Valid(want, g.Points)
			} else {
				polygon.Valid(want, g.Points)
			}
		}
		for i, g := range l {
			want.Note(api.Area, i, 1)
			if g.Vertices == 0 {
				disc.Locate(want, g.Points, p)
			} else {
				polygon.Locate(want, g.Points, p)
			}
		}
		fence.Valid(got, l)
		fence.Member(got, l, p)
		if !tape.Equal(got, want) {
			t.Errorf("Valid and Member of %v record %v, want %v", l, got.Events(), want.Events())
		}
	}
}

// withPoints returns a fence with the structure of l and other points.
func withPoints(l regions, choose func(n int) list) regions {
	m := slices.Clone(l)
	for i := range m {
		m[i].Points = choose(len(m[i].Points))
	}
	return m
}

// TestEventsDependOnPublicDataOnly uses fences with the same structure, which are valid or not, and points that are members or not.
func TestEventsDependOnPublicDataOnly(t *testing.T) {
	for seed := range uint64(60) {
		l, _ := someFence(seed)
		same := []regions{l,
			swapped(l), // Deny is public as well, but the events do not tell it.
			withPoints(l, parabola),
			withPoints(l, func(n int) list { return make(list, n) }),
			withPoints(l, func(n int) list { return ordinary(n, seed) }),
			withPoints(l, func(n int) list { return slices.Repeat(points(least, greatest), n) }),
		}
		for _, m := range same {
			for _, p := range points(0, 0, 3, 3, 4, 5, least, greatest) {
				x := tape.New()
				x.Note(99, -1, -2)
				fence.Valid(x, m)
				fence.Member(x, m, p)
				if got, want := x.Events(), slices.Concat([]api.Event{{Kind: 99, A: -1, B: -2}}, validEvents(l), memberEvents(l)); !slices.Equal(got, want) {
					t.Errorf("Valid and Member of %v and %d record %v, want %v", m, p, got, want)
				}
			}
		}
	}
}

func TestResultsDoNotDependOnTheTape(t *testing.T) {
	used, p := tape.New(), point(4, 4)
	for seed := range uint64(100) {
		l, _ := someFence(seed)
		for _, m := range []regions{l, swapped(l), anyFence(seed), l[:0]} {
			if fence.Valid(used, m) != fence.Valid(nil, m) || fence.Member(used, m, p) != fence.Member(nil, m, p) {
				t.Errorf("the results for %v depend on the tape", m)
			}
		}
	}
}

// P16.5

func TestResultsDoNotDependOnTheOrder(t *testing.T) {
	fences := invalid()
	for seed := range uint64(30) {
		l, _ := someFence(seed)
		fences = append(fences, l[:min(len(l), 5)], anyFence(seed))
	}
	fences = append(fences, regions{round(allow, 0, 0, 5), {Vertices: 2}, round(allow, 0, 0, 5)})
	for _, l := range fences {
		for _, m := range orders(l) {
			if got, want := fence.Valid(nil, m), fence.Valid(nil, l); got != want {
				t.Errorf("Valid of %v = %x, want %x as for %v", m, got, want, l)
			}
			for _, p := range grid(0, 3, 6) {
				if got, want := fence.Member(nil, m, p), fence.Member(nil, l, p); got != want {
					t.Errorf("Member of %v and %d = %x, want %x as for %v", m, p, got, want, l)
				}
			}
		}
	}
}

// TestDenyRegionsAddNoMembers adds a deny region at each place of a fence.
func TestDenyRegionsAddNoMembers(t *testing.T) {
	for seed := range uint64(60) {
		l, _ := someFence(seed)
		g, _ := someRegion(source(^seed))
		for _, more := range (regions{g, round(deny, 4, 4, 3), discOf(deny, 0, 0, 1, 1, 2, 2), box(deny, 90, 90, 91, 91)}) {
			more.Deny = true
			for i := range len(l) + 1 {
				m := slices.Insert(slices.Clone(l), i, more)
				for _, p := range grid(0, 2, 4, 6, 8) {
					before, after := fence.Member(nil, l, p), fence.Member(nil, m, p)
					if after != before&of(!closed(more, p)) {
						t.Errorf("Member of %v and %d = %x, though it was %x without %v", m, p, after, before, more)
					}
				}
			}
		}
	}
}

// Rules

// TestPartsOfLists uses fences and points that are parts of longer lists, whose other elements would change the results.
func TestPartsOfLists(t *testing.T) {
	for seed := range uint64(60) {
		l, _ := someFence(seed)
		for _, other := range (regions{box(allow, -99, -99, 99, 99), box(deny, -99, -99, 99, 99), discOf(allow, 0, 0, 1, 1, 2, 2), {Vertices: 2}}) {
			whole := slices.Concat(copies(2, other), cloned(l), copies(2, other))
			part := whole[2 : 2+len(l)]
			for i := range part {
				part[i].Points = slices.Concat(parabola(1), part[i].Points, parabola(2))[1 : 1+len(part[i].Points)]
			}
			kept := cloned(whole)
			if got := fence.Check(part); got != api.OK {
				t.Errorf("Check of a part = %v, want OK", got)
			}
			checkValid(t, part)
			for _, p := range points(4, 4, 98, 98) {
				checkMember(t, part, p)
			}
			if !slices.EqualFunc(whole, kept, equalRegions) {
				t.Errorf("a list that contains the fence %v was changed", l)
			}
		}
	}
}

// TestCallsKeepNothing changes a fence after the calls, which must not change the later results.
func TestCallsKeepNothing(t *testing.T) {
	l := regions{box(allow, 0, 0, 4, 4)}
	if fence.Valid(nil, l) != all || fence.Member(nil, l, point(1, 1)) != all || fence.Member(nil, l, point(8, 8)) != 0 {
		t.Error("the results for a square are wrong")
	}
	copy(l[0].Points, points(8, 8, 9, 8, 9, 9, 8, 8))
	if fence.Valid(nil, l) != 0 || fence.Member(nil, l, point(1, 1)) != 0 || fence.Member(nil, l, point(8, 8)) != all {
		t.Error("the results for other points are not those of these points")
	}
}

func TestConcurrentCalls(t *testing.T) {
	l := regions{box(allow, 0, 0, 4, 4), round(deny, 0, 0, 1), {Vertices: 20, Points: parabola(20)}}
	want := slices.Concat(validEvents(l), memberEvents(l))
	var group sync.WaitGroup
	for range 8 {
		group.Go(func() {
			x := tape.New()
			valid, member := fence.Valid(x, l), fence.Member(x, l, point(3, 3))
			if fence.Check(l) != api.OK || valid != all || member != all || !slices.Equal(x.Events(), want) {
				t.Error("a concurrent call returns or records something else")
			}
		})
	}
	group.Wait()
}
