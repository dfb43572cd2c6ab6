package tape_test

import (
	"math"
	"slices"
	"testing"

	"geofence/api"
	"geofence/tape"
)

// extremes are numbers at the bounds, next to zero, and such that are equal if their upper bits are cut off.
var extremes = []int{math.MinInt, math.MinInt + 1, -1 << 32, -1, 0, 1, 8, 9, 1 << 32, 1<<32 + 1, math.MaxInt - 1, math.MaxInt}

func event(kind, a, b int) api.Event { return api.Event{Kind: kind, A: a, B: b} }

// record returns a new tape with the given events.
func record(events ...api.Event) *tape.Tape {
	t := tape.New()
	for _, e := range events {
		t.Note(e.Kind, e.A, e.B)
	}
	return t
}

// ordinary returns n events of the kinds of api, with operands that do not repeat in short lists.
func ordinary(n int) []api.Event {
	var l []api.Event
	for i := range n {
		l = append(l, event(1+i*i%8, i%91, i%97))
	}
	return l
}

// extremeEvents returns all events whose kinds and operands are extremes.
func extremeEvents() []api.Event {
	var l []api.Event
	for _, kind := range extremes {
		for _, a := range extremes {
			for _, b := range extremes {
				l = append(l, event(kind, a, b))
			}
		}
	}
	return l
}

// number returns the number of events of a kind in a list.
func number(l []api.Event, kind int) int {
	n := 0
	for _, e := range l {
		if e.Kind == kind {
			n++
		}
	}
	return n
}

// check compares all that a tape tells with the events that it should have.
func check(t *testing.T, x *tape.Tape, want []api.Event) {
	t.Helper()
	if x.Len() != len(want) {
		t.Errorf("Len is %d, want %d", x.Len(), len(want))
	}
	if got := x.Events(); !slices.Equal(got, want) {
		t.Errorf("Events is %v, want %v", got, want)
	}
	for _, kind := range append([]int{2, 3, 4, 5, 6, 7, 99}, extremes...) {
		if got := x.Count(kind); got != number(want, kind) {
			t.Errorf("Count(%d) is %d, want %d", kind, got, number(want, kind))
		}
	}
}

// P10.1

func TestNewHasNoEvents(t *testing.T) {
	x := tape.New()
	if x == nil {
		t.Fatal("New returns nil")
	}
	check(t, x, nil)
}

func TestNoteAppends(t *testing.T) {
	x := tape.New()
	for i, e := range ordinary(200) {
		x.Note(e.Kind, e.A, e.B)
		check(t, x, ordinary(i+1))
	}
}

func TestNoteTakesAllNumbers(t *testing.T) {
	l := extremeEvents()
	check(t, record(l...), l)
	for _, e := range l {
		check(t, record(e), []api.Event{e})
	}
}

func TestNoteTakesEqualEvents(t *testing.T) {
	a, b := event(3, 0, 1), event(0, 0, 0)
	l := []api.Event{a, a, b, a, b, b, b}
	check(t, record(l...), l)
}

func TestTapesAreIndependent(t *testing.T) {
	x, y := tape.New(), tape.New()
	x.Note(3, 0, 1)
	check(t, y, nil)
	y.Note(3, 5, 6)
	y.Note(4, 7, 8)
	x.Note(1, 2, 0)
	check(t, x, []api.Event{event(3, 0, 1), event(1, 2, 0)})
	check(t, y, []api.Event{event(3, 5, 6), event(4, 7, 8)})
}

// P10.2

func TestExample(t *testing.T) {
	x := tape.New()
	x.Note(3, 0, 1)
	x.Note(1, 5, 0)
	if x.Len() != 2 || x.Count(3) != 1 || tape.First(x, tape.New()) != 0 {
		t.Errorf("Len is %d, Count(3) is %d, First is %d", x.Len(), x.Count(3), tape.First(x, tape.New()))
	}
}

func TestManyEvents(t *testing.T) {
	l := ordinary(100000)
	check(t, record(l...), l)
}

// TestEventsAreNewlyAllocated uses tapes of many lengths, as some of them leave room for further events in their memory.
func TestEventsAreNewlyAllocated(t *testing.T) {
	for n := range 40 {
		want := ordinary(n)
		x := record(want...)
		changed, kept := x.Events(), x.Events()
		clear(changed)
		for len(changed) < 100 {
			changed = append(changed, event(-1, -1, -1))
		}
		check(t, x, want)
		x.Note(5, 6, 7)
		clear(changed[:cap(changed)])
		check(t, x, append(slices.Clone(want), event(5, 6, 7)))
		if !slices.Equal(kept, want) {
			t.Errorf("an earlier result of Events is %v, want %v", kept, want)
		}
	}
}

// TestRoomBehindEvents writes into the memory behind the events of a result, which must be neither the tape's nor another result's.
func TestRoomBehindEvents(t *testing.T) {
	for n := range 40 {
		x := record(ordinary(n)...)
		before, after := x.Events(), x.Events()
		before = append(before, event(-1, -1, -1))
		after = append(after, event(-2, -2, -2))
		x.Note(5, 6, 7)
		if before[n] != event(-1, -1, -1) || after[n] != event(-2, -2, -2) {
			t.Errorf("events appended to results of Events are %v and %v", before[n], after[n])
		}
		check(t, x, append(ordinary(n), event(5, 6, 7)))
	}
}

func TestCountHasNoEffect(t *testing.T) {
	x := record(ordinary(10)...)
	for range 3 {
		for _, kind := range extremes {
			x.Count(kind)
		}
		check(t, x, ordinary(10))
	}
}

// P10.3

// first returns the least index at which two lists differ, or -1 if there is none.
func first(l, m []api.Event) int {
	for i := 0; i < len(l) || i < len(m); i++ {
		if i >= len(l) || i >= len(m) || l[i] != m[i] {
			return i
		}
	}
	return -1
}

// compare compares two tapes in both orders; want is the first index at which they should differ.
func compare(t *testing.T, x, y *tape.Tape, want int) {
	t.Helper()
	for _, pair := range [][2]*tape.Tape{{x, y}, {y, x}} {
		if got := tape.First(pair[0], pair[1]); got != want {
			t.Errorf("First of %v and %v is %d, want %d", pair[0].Events(), pair[1].Events(), got, want)
		}
		if got := tape.Equal(pair[0], pair[1]); got != (want < 0) {
			t.Errorf("Equal of %v and %v is %v", pair[0].Events(), pair[1].Events(), got)
		}
	}
}

// shortLists returns all lists of at most three of the given events.
func shortLists(events ...api.Event) [][]api.Event {
	l := [][]api.Event{nil}
	for i := 0; i < len(l); i++ {
		if len(l[i]) == 3 {
			continue
		}
		for _, e := range events {
			l = append(l, append(slices.Clone(l[i]), e))
		}
	}
	return l
}

func TestCompareShortTapes(t *testing.T) {
	// The first event is that of zero values, and each other one differs from it in one number.
	lists := shortLists(event(0, 0, 0), event(1, 0, 0), event(0, 1, 0), event(0, 0, 1))
	for _, l := range lists {
		for _, m := range lists {
			compare(t, record(l...), record(m...), first(l, m))
		}
	}
}

func TestCompareExtremeEvents(t *testing.T) {
	before := ordinary(3)
	for _, v := range extremes {
		for _, w := range extremes {
			want := 3
			if v == w {
				want = -1
			}
			for _, pair := range [][2]api.Event{{event(v, 1, 2), event(w, 1, 2)}, {event(1, v, 2), event(1, w, 2)}, {event(1, 2, v), event(1, 2, w)}} {
				compare(t, record(append(before, pair[0])...), record(append(before, pair[1])...), want)
			}
		}
	}
}

func TestCompareLongTapes(t *testing.T) {
	const n = 150
	x := record(ordinary(n)...)
	compare(t, x, record(ordinary(n)...), -1)
	for i := range n {
		compare(t, x, record(ordinary(i)...), i)
		compare(t, x, record(ordinary(n+i+1)...), n)
		changed := ordinary(n)
		changed[i].B++
		compare(t, x, record(changed...), i)
		changed[n-1].A = -1
		compare(t, x, record(changed...), i)
	}
}

func TestCompareReordered(t *testing.T) {
	a, b, c := event(4, 0, 2), event(4, 2, 0), event(5, 0, 0)
	compare(t, record(a, b, c), record(b, a, c), 0)
	compare(t, record(a, b, c), record(a, c, b), 1)
	compare(t, record(c, a, b, a), record(c, a, a, b), 2)
}

func TestCompareWithItself(t *testing.T) {
	for n := range 20 {
		x := record(ordinary(n)...)
		compare(t, x, x, -1)
		check(t, x, ordinary(n))
	}
}

func TestCompareGrowingTapes(t *testing.T) {
	x, y := tape.New(), tape.New()
	for i, e := range ordinary(50) {
		compare(t, x, y, -1)
		x.Note(e.Kind, e.A, e.B)
		compare(t, x, y, i)
		y.Note(e.Kind, e.A, e.B)
	}
	compare(t, x, y, -1)
	check(t, x, ordinary(50))
	check(t, y, ordinary(50))
}

// P10.4

func TestLenIsTheSumOfCounts(t *testing.T) {
	for _, l := range [][]api.Event{nil, ordinary(1), ordinary(1000), extremeEvents(), append(ordinary(77), extremeEvents()...)} {
		x := record(l...)
		kinds := map[int]bool{}
		for _, e := range x.Events() {
			kinds[e.Kind] = true
		}
		sum := 0
		for kind := range kinds {
			sum += x.Count(kind)
		}
		if sum != x.Len() {
			t.Errorf("the sum of Count is %d, and Len is %d", sum, x.Len())
		}
	}
}

func TestFirstAgreesWithEqual(t *testing.T) {
	tapes := []*tape.Tape{nil, tape.New(), record(event(0, 0, 0)), record(ordinary(9)...), record(ordinary(10)...), record(ordinary(10)...), record(extremeEvents()...)}
	for i, x := range tapes {
		for j, y := range tapes {
			if tape.Equal(x, y) != (tape.First(x, y) == -1) {
				t.Errorf("Equal and First disagree for the tapes %d and %d", i, j)
			}
		}
	}
}

// A nil tape has no events.

func TestNilTape(t *testing.T) {
	var none *tape.Tape
	check(t, none, nil)
	for _, e := range extremeEvents() {
		none.Note(e.Kind, e.A, e.B)
	}
	check(t, none, nil)
	compare(t, none, nil, -1)
	compare(t, none, tape.New(), -1)
	for n := 1; n < 20; n++ {
		compare(t, none, record(ordinary(n)...), 0)
	}
	compare(t, none, record(event(0, 0, 0)), 0)
}
