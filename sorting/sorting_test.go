package sorting_test

import (
	"slices"
	"sync"
	"testing"

	"geofence/api"
	"geofence/network"
	"geofence/sorting"
	"geofence/tape"
)

const all = 1<<64 - 1

// records names the elements of a list of type api.Record shortly.
type records = []api.Record

// fields are Live and ID of each record of a list.
type fields = [][2]uint64

// with returns the records with the given fields.
func with(l fields) records {
	var r records
	for _, f := range l {
		r = append(r, api.Record{Live: f[0], ID: f[1]})
	}
	return r
}

// numbers returns a function that returns another word at each call, and the same ones for the same seed.
func numbers(seed uint64) func() uint64 {
	x := seed
	return func() uint64 {
		x = x*6364136223846793005 + 1442695040888963407
		return x ^ x>>29
	}
}

// ordinary returns n records from the whole range. Some are not live, and some IDs occur several times.
func ordinary(n int) records {
	next := numbers(uint64(n))
	var l records
	for range n {
		x := api.Record{Live: next(), ID: next()}
		if len(l) > 0 && next()%8 == 0 {
			x.ID = l[next()%uint64(len(l))].ID
		}
		l = append(l, x)
	}
	return l
}

// lives are words that tell whether a record is live, and ids are IDs at the bounds.
var (
	lives = []uint64{0, 1, 2, 3, 1 << 63, 1<<63 + 1, all - 1, all}
	ids   = []uint64{0, 1, 2, 1<<63 - 1, 1 << 63, 1<<63 + 1, all - 1, all}
)

// bounds returns the records with all these words, and some with ordinary ones.
func bounds() records {
	var l records
	for _, live := range lives {
		for _, id := range ids {
			l = append(l, api.Record{Live: live, ID: id})
		}
	}
	return append(l, ordinary(40)...)
}

// shortLists returns all lists of at most length of the given records.
func shortLists(length int, elements ...api.Record) []records {
	l := []records{nil}
	for i := 0; i < len(l); i++ {
		if len(l[i]) == length {
			continue
		}
		for _, x := range elements {
			l = append(l, append(slices.Clone(l[i]), x))
		}
	}
	return l
}

// lengths returns all short lengths of lists, and greater ones beside the powers of two, up to api.MaxPoints.
func lengths() []int {
	var l []int
	for n := range 140 {
		l = append(l, n)
	}
	for n := 256; n <= api.MaxPoints; n *= 2 {
		l = append(l, n-1, n)
		if n < api.MaxPoints {
			l = append(l, n+1, n+n/2)
		}
	}
	return l
}

// isLive returns whether a record is live.
func isLive(x api.Record) bool { return x.Live%2 == 1 }

// cleaned returns a record without superfluous data.
func cleaned(x api.Record) api.Record {
	if isLive(x) {
		return api.Record{Live: 1, ID: x.ID}
	}
	return api.Record{}
}

// liveIDs returns the IDs of the live records in ascending order.
func liveIDs(l records) []uint64 {
	var live []uint64
	for _, x := range l {
		if isLive(x) {
			live = append(live, x.ID)
		}
	}
	slices.Sort(live)
	return live
}

// ordered returns what Sort should return: the live records in the order of their IDs, and zero records.
func ordered(l records) records {
	r := make(records, len(l))
	for i, id := range liveIDs(l) {
		r[i] = api.Record{Live: 1, ID: id}
	}
	return r
}

// P13.1

func TestClean(t *testing.T) {
	for _, x := range bounds() {
		if got, want := sorting.Clean(x), cleaned(x); got != want {
			t.Errorf("Clean of %x is %x, want %x", x, got, want)
		}
	}
}

func TestCleanExamples(t *testing.T) {
	for _, c := range []struct{ x, want api.Record }{
		{api.Record{}, api.Record{}},
		{api.Record{Live: 1}, api.Record{Live: 1}},
		{api.Record{Live: 1, ID: 7}, api.Record{Live: 1, ID: 7}},
		{api.Record{Live: 0, ID: 7}, api.Record{}},
		{api.Record{Live: 2, ID: 7}, api.Record{}},
		{api.Record{Live: 3, ID: 7}, api.Record{Live: 1, ID: 7}},
		{api.Record{Live: all, ID: all}, api.Record{Live: 1, ID: all}},
		{api.Record{Live: all - 1, ID: all}, api.Record{}},
		{api.Record{Live: 1 << 63, ID: 1 << 63}, api.Record{}},
	} {
		if got := sorting.Clean(c.x); got != c.want {
			t.Errorf("Clean of %x is %x, want %x", c.x, got, c.want)
		}
	}
}

// TestCleanKeepsEachBit uses records of which a single bit differs from all others.
func TestCleanKeepsEachBit(t *testing.T) {
	for bit := range 64 {
		for _, word := range []uint64{0, all} {
			other := word ^ 1<<bit
			for _, x := range []api.Record{{Live: other, ID: all}, {Live: 1, ID: other}, {Live: 2, ID: other}} {
				if got, want := sorting.Clean(x), cleaned(x); got != want {
					t.Errorf("Clean of %x is %x, want %x", x, got, want)
				}
			}
		}
	}
}

// precedes returns the mask that Less should return.
func precedes(x, y api.Record) uint64 {
	if isLive(x) && (!isLive(y) || x.ID < y.ID) {
		return all
	}
	return 0
}

// checkLess compares Less of two records, in both orders, with what it should be.
func checkLess(t *testing.T, x, y api.Record) {
	t.Helper()
	for _, pair := range [][2]api.Record{{x, y}, {y, x}} {
		if got, want := sorting.Less(pair[0], pair[1]), precedes(pair[0], pair[1]); got != want {
			t.Errorf("Less of %x and %x is %x, want %x", pair[0], pair[1], got, want)
		}
	}
}

func TestLess(t *testing.T) {
	l := bounds()
	for i, x := range l {
		for _, y := range l[i:] {
			checkLess(t, x, y)
		}
	}
}

func TestLessExamples(t *testing.T) {
	for _, c := range []struct {
		x, y api.Record
		want uint64
	}{
		{api.Record{}, api.Record{}, 0},
		{api.Record{Live: 1}, api.Record{}, all},
		{api.Record{}, api.Record{Live: 1}, 0},
		{api.Record{Live: 1, ID: all}, api.Record{Live: 0, ID: 0}, all},
		{api.Record{Live: 0, ID: 0}, api.Record{Live: 1, ID: all}, 0},
		{api.Record{Live: 0, ID: 1}, api.Record{Live: 0, ID: 2}, 0},
		{api.Record{Live: 0, ID: 2}, api.Record{Live: 2, ID: 1}, 0},
		{api.Record{Live: 1, ID: 1}, api.Record{Live: 1, ID: 2}, all},
		{api.Record{Live: 1, ID: 2}, api.Record{Live: 1, ID: 1}, 0},
		{api.Record{Live: 1, ID: 2}, api.Record{Live: 1, ID: 2}, 0},
		{api.Record{Live: 1, ID: 2}, api.Record{Live: 3, ID: 2}, 0},
		{api.Record{Live: 3, ID: 1}, api.Record{Live: 1, ID: 2}, all},
		{api.Record{Live: 1, ID: 1}, api.Record{Live: 1, ID: 1 << 63}, all},
		{api.Record{Live: 1, ID: 1 << 63}, api.Record{Live: 1, ID: 1}, 0},
	} {
		if got := sorting.Less(c.x, c.y); got != c.want {
			t.Errorf("Less of %x and %x is %x, want %x", c.x, c.y, got, c.want)
		}
	}
}

// TestLessComparesAllBits uses pairs of IDs that differ in a single bit, below and above different other bits.
func TestLessComparesAllBits(t *testing.T) {
	next := numbers(1)
	for bit := range 64 {
		for _, id := range []uint64{0, all, next(), next()} {
			for _, live := range lives {
				x, y := api.Record{Live: live, ID: id}, api.Record{Live: live, ID: id ^ 1<<bit}
				checkLess(t, x, y)
				y.Live ^= 1 << bit
				checkLess(t, x, y)
			}
		}
	}
}

// P13.2

// pairs returns events of the kind that Sort records, with the given operands.
func pairs(operands ...[2]int) []api.Event {
	var l []api.Event
	for _, o := range operands {
		l = append(l, api.Event{Kind: api.Pair, A: o[0], B: o[1]})
	}
	return l
}

// compared returns the events that Sort should record for n records, for which there is a network.
func compared(n int) []api.Event {
	size := 1
	for size < n {
		size *= 2
	}
	var operands [][2]int
	for _, c := range network.Comparators(size) {
		operands = append(operands, [2]int{c.Low, c.High})
	}
	return pairs(operands...)
}

// checkSort compares Sort of a list with what it should return, and looks whether the list remains.
func checkSort(t *testing.T, l records) {
	t.Helper()
	kept := slices.Clone(l)
	if got, want := sorting.Sort(nil, l), ordered(kept); !slices.Equal(got, want) {
		t.Errorf("Sort of %x is %x, want %x", kept, got, want)
	}
	if !slices.Equal(l, kept) {
		t.Errorf("Sort changed %x to %x", kept, l)
	}
}

func TestSortExamples(t *testing.T) {
	four := pairs([2]int{0, 1}, [2]int{3, 2}, [2]int{0, 2}, [2]int{1, 3}, [2]int{0, 1}, [2]int{2, 3})
	for _, c := range []struct {
		l, want fields
		events  []api.Event
	}{
		{nil, nil, nil},
		{fields{{0, 0}}, fields{{0, 0}}, nil},
		{fields{{1, 5}}, fields{{1, 5}}, nil},
		{fields{{2, 5}}, fields{{0, 0}}, nil},
		{fields{{7, 8}}, fields{{1, 8}}, nil},
		{fields{{1, 2}, {1, 1}}, fields{{1, 1}, {1, 2}}, pairs([2]int{0, 1})},
		{fields{{0, 2}, {3, 9}}, fields{{1, 9}, {0, 0}}, pairs([2]int{0, 1})},
		{fields{{1, 7}, {0, 9}, {1, 3}}, fields{{1, 3}, {1, 7}, {0, 0}}, four},
		{fields{{1, all}, {1, 1 << 63}, {1, 0}}, fields{{1, 0}, {1, 1 << 63}, {1, all}}, four},
		{fields{{0, 4}, {2, 3}, {4, 2}, {6, 1}}, fields{{0, 0}, {0, 0}, {0, 0}, {0, 0}}, four},
		{fields{{1, 5}, {3, 5}, {0, 5}, {1, 4}}, fields{{1, 4}, {1, 5}, {1, 5}, {0, 0}}, four},
	} {
		x := tape.New()
		if got := sorting.Sort(x, with(c.l)); !slices.Equal(got, with(c.want)) {
			t.Errorf("Sort of %v is %v, want %v", c.l, got, c.want)
		}
		if got := x.Events(); !slices.Equal(got, c.events) {
			t.Errorf("Sort of %v records %v, want %v", c.l, got, c.events)
		}
	}
}

func TestSortShortLists(t *testing.T) {
	for _, l := range shortLists(5, api.Record{Live: 1, ID: 3}, api.Record{Live: 5, ID: 3}, api.Record{Live: 1}, api.Record{Live: all, ID: all}, api.Record{ID: 1}, api.Record{Live: 2, ID: all}, api.Record{}) {
		checkSort(t, l)
	}
	for _, l := range shortLists(2, bounds()...) {
		checkSort(t, l)
	}
}

// TestSortPatterns uses all lists of two records. A network that sorts these sorts all lists.
func TestSortPatterns(t *testing.T) {
	for _, two := range [][2]api.Record{{{Live: 1, ID: 6}, {Live: 1, ID: 7}}, {{Live: 1, ID: all}, {Live: 0, ID: 5}}} {
		for _, l := range shortLists(11, two[:]...) {
			checkSort(t, l)
		}
	}
}

func TestSortOrdinaryLists(t *testing.T) {
	for _, n := range lengths() {
		l := ordinary(n)
		checkSort(t, l)
		slices.Reverse(l)
		checkSort(t, l)
		for i := range l {
			l[i].Live |= 1
		}
		checkSort(t, l)
		checkSort(t, ordered(l))
	}
}

// TestSortEqualLists uses lists of equal records, and such in which one of them differs.
func TestSortEqualLists(t *testing.T) {
	for _, n := range lengths() {
		if n == 0 || n > 1100 {
			continue
		}
		for _, x := range []api.Record{{}, {Live: 2, ID: 3}, {Live: 1}, {Live: 1, ID: all}, {Live: 3, ID: 8}} {
			for _, y := range []api.Record{x, {Live: 1, ID: 5}, {ID: 5}} {
				for _, i := range []int{0, n / 3, n - 1} {
					l := slices.Repeat(records{x}, n)
					l[i] = y
					checkSort(t, l)
				}
			}
		}
	}
}

// tooMany are numbers of records for which there is no network.
var tooMany = []int{api.MaxPoints + 1, api.MaxPoints + 2, 5000, 2*api.MaxPoints - 1, 2 * api.MaxPoints, 1 << 16, 1<<16 + 1, 1<<16 + api.MaxPoints}

func TestSortWithoutANetwork(t *testing.T) {
	lists := []records{nil, {}, ordinary(3)[:0], make(records, 0, 8)}
	for _, n := range tooMany {
		lists = append(lists, ordinary(n), make(records, n))
	}
	for _, l := range lists {
		x := tape.New()
		if got := sorting.Sort(x, l); len(got) != 0 || x.Len() != 0 {
			t.Errorf("Sort of %d records returns %d and records %d events", len(l), len(got), x.Len())
		}
	}
}

// TestSortOfAPart uses lists that are parts of longer ones, whose other records would come first.
func TestSortOfAPart(t *testing.T) {
	for _, n := range lengths() {
		l := ordinary(n)
		whole := slices.Concat(slices.Repeat(records{{Live: 1}}, 2), l, slices.Repeat(records{{Live: 1}}, n+3))
		kept := slices.Clone(whole)
		if got := sorting.Sort(nil, whole[2:2+n]); !slices.Equal(got, ordered(l)) {
			t.Errorf("Sort of %d records in a longer list does not return these in order", n)
		}
		if !slices.Equal(whole, kept) {
			t.Errorf("Sort of %d records in a longer list changed that list", n)
		}
	}
}

func TestSortReturnsNewMemory(t *testing.T) {
	for _, n := range lengths() {
		l := ordinary(n)
		first := sorting.Sort(nil, l)
		second := sorting.Sort(nil, l)
		clear(second[:cap(second)])
		if want := ordinary(n); !slices.Equal(l, want) || !slices.Equal(first, ordered(want)) {
			t.Errorf("a result of Sort for %d records shares memory with its argument or with another result", n)
		}
		clear(l)
		if !slices.Equal(first, ordered(ordinary(n))) {
			t.Errorf("the result of Sort for %d records changes with its argument", n)
		}
	}
}

func TestConcurrentCalls(t *testing.T) {
	l := ordinary(100)
	want, events := ordered(l), compared(100)
	var group sync.WaitGroup
	for range 8 {
		group.Go(func() {
			x := tape.New()
			if got := sorting.Sort(x, l); !slices.Equal(got, want) || !slices.Equal(x.Events(), events) {
				t.Error("a concurrent call of Sort returns or records something else")
			}
		})
	}
	group.Wait()
}

// P13.3

// visited returns the events that Count should record for n records.
func visited(n int) []api.Event {
	var l []api.Event
	for i := range n {
		l = append(l, api.Event{Kind: api.Read, A: i})
	}
	return l
}

// checkCount compares Count of a list with what it should return, and looks whether the list remains.
func checkCount(t *testing.T, l records) {
	t.Helper()
	kept := slices.Clone(l)
	if got, want := sorting.Count(nil, l), uint64(len(liveIDs(kept))); got != want {
		t.Errorf("Count of %d records is %d, want %d", len(l), got, want)
	}
	if !slices.Equal(l, kept) {
		t.Errorf("Count changed %x to %x", kept, l)
	}
}

func TestCount(t *testing.T) {
	for _, n := range append(lengths(), tooMany...) {
		checkCount(t, ordinary(n))
		checkCount(t, make(records, n))
		checkCount(t, slices.Repeat(records{{Live: all}}, n))
		checkCount(t, slices.Repeat(records{{Live: all - 1, ID: all}}, n))
	}
	for _, l := range shortLists(2, bounds()...) {
		checkCount(t, l)
	}
	for _, l := range shortLists(9, api.Record{Live: 2, ID: 1}, api.Record{Live: 7}) {
		checkCount(t, l)
	}
	for n := range 40 {
		checkCount(t, slices.Repeat(records{{Live: 1}}, 40)[:n])
		checkCount(t, slices.Repeat(records{{Live: 1}}, 40)[n:])
	}
}

func TestCountExamples(t *testing.T) {
	for _, c := range []struct {
		l    fields
		want uint64
	}{
		{nil, 0},
		{fields{{0, 1}}, 0},
		{fields{{2, 1}}, 0},
		{fields{{3, 0}}, 1},
		{fields{{1, 7}, {0, 9}, {1, 3}}, 2},
		{fields{{1, 5}, {1, 5}, {1, 5}}, 3},
		{fields{{all, 0}, {all - 1, 1}, {1 << 63, 1}, {1<<63 + 1, 0}}, 2},
	} {
		if got := sorting.Count(nil, with(c.l)); got != c.want {
			t.Errorf("Count of %x is %d, want %d", c.l, got, c.want)
		}
	}
}

// P13.4

// TestEventsDependOnTheNumberOnly uses ordinary records, equal ones that are live or not, and records that are in order or in the opposite one.
func TestEventsDependOnTheNumberOnly(t *testing.T) {
	for _, n := range lengths() {
		var wantSort []api.Event
		if n > 0 {
			wantSort = compared(n)
		}
		reversed := ordered(ordinary(n))
		slices.Reverse(reversed)
		for _, l := range []records{ordinary(n), make(records, n), slices.Repeat(records{{Live: all, ID: all}}, n), ordered(ordinary(n)), reversed} {
			x := tape.New()
			sorting.Sort(x, l)
			if got := x.Events(); !slices.Equal(got, wantSort) {
				t.Fatalf("Sort of %d records records %v, want %v", n, got, wantSort)
			}
			x = tape.New()
			sorting.Count(x, l)
			if got, want := x.Events(), visited(n); !slices.Equal(got, want) {
				t.Fatalf("Count of %d records records %v, want %v", n, got, want)
			}
		}
	}
}

func TestEventsOfCountForManyRecords(t *testing.T) {
	for _, n := range tooMany {
		x := tape.New()
		sorting.Count(x, ordinary(n))
		if !slices.Equal(x.Events(), visited(n)) {
			t.Errorf("Count of %d records does not record an event for each of them", n)
		}
	}
}

func TestEventsFollowEarlierOnes(t *testing.T) {
	x := tape.New()
	x.Note(api.Area, 7, 9)
	want := []api.Event{{Kind: api.Area, A: 7, B: 9}}
	for _, n := range []int{3, 1, 0, 8, 5, 5000, 2} {
		sorting.Sort(x, ordinary(n))
		sorting.Count(x, ordinary(n))
		if n > 0 && n <= api.MaxPoints {
			want = append(want, compared(n)...)
		}
		want = append(want, visited(n)...)
	}
	if !slices.Equal(x.Events(), want) {
		t.Error("the events of a sequence of calls are not those of each call in order")
	}
}

func TestResultsDoNotDependOnTheTape(t *testing.T) {
	used := tape.New()
	for _, n := range lengths() {
		l := ordinary(n)
		if !slices.Equal(sorting.Sort(used, l), sorting.Sort(nil, l)) || sorting.Count(used, l) != sorting.Count(nil, l) {
			t.Errorf("the results for %d records depend on the tape", n)
		}
	}
}

func TestSortBeginsWithLiveRecords(t *testing.T) {
	for _, n := range lengths() {
		l := ordinary(n)
		sorted, count := sorting.Sort(nil, l), int(sorting.Count(nil, l))
		for i, x := range sorted[:count] {
			if x.Live != 1 || i > 0 && x.ID < sorted[i-1].ID {
				t.Errorf("record %d of %d is %x, though %d are live", i, n, x, count)
			}
		}
		for i, x := range sorted[count:] {
			if x != (api.Record{}) {
				t.Errorf("record %d of %d is %x, though %d are live", count+i, n, x, count)
			}
		}
	}
}

// orders returns all orders of a list.
func orders(l records) []records {
	if len(l) == 0 {
		return []records{nil}
	}
	var r []records
	for _, rest := range orders(l[1:]) {
		for i := range l {
			r = append(r, slices.Insert(slices.Clone(rest), i, l[0]))
		}
	}
	return r
}

func TestSortDoesNotDependOnTheOrder(t *testing.T) {
	for _, f := range []fields{
		{{1, 6}, {1, 5}, {1, 4}, {1, 3}, {1, 2}, {1, 1}, {1, 0}},
		{{1, 4}, {3, 4}, {0, 4}, {2, 9}, {1, 1}, {all, all}},
		{{1, 1}, {3, 1}, {5, 1}, {0, 1}, {0, 2}},
	} {
		l := with(f)
		want := ordered(l)
		for _, m := range orders(l) {
			if got := sorting.Sort(nil, m); !slices.Equal(got, want) {
				t.Errorf("Sort of %v is %v, want %v", m, got, want)
			}
		}
	}
}
