package array_test

import (
	"slices"
	"testing"

	"geofence/api"
	"geofence/array"
	"geofence/tape"
)

const all = 1<<64 - 1

// functions are all functions of the package and the kinds of their events. Those that take no index or word ignore them.
var functions = []struct {
	name string
	kind int
	call func(t *tape.Tape, l []uint64, i, x uint64) uint64
}{
	{"Read", api.Read, func(t *tape.Tape, l []uint64, i, _ uint64) uint64 { return array.Read(t, l, i) }},
	{"Write", api.Write, func(t *tape.Tape, l []uint64, i, x uint64) uint64 { array.Write(t, l, i, x); return 0 }},
	{"Count", api.Read, func(t *tape.Tape, l []uint64, _, _ uint64) uint64 { return array.Count(t, l) }},
	{"First", api.Read, func(t *tape.Tape, l []uint64, _, _ uint64) uint64 { return array.First(t, l) }},
	{"All", api.Read, func(t *tape.Tape, l []uint64, _, _ uint64) uint64 { return array.All(t, l) }},
	{"Some", api.Read, func(t *tape.Tape, l []uint64, _, _ uint64) uint64 { return array.Some(t, l) }},
}

// numbers returns a function that returns another word at each call, and the same ones for the same seed.
func numbers(seed uint64) func() uint64 {
	x := seed
	return func() uint64 {
		x = x*6364136223846793005 + 1442695040888963407
		return x ^ x>>29
	}
}

// ordinary returns n words from the whole range, none of which is 0.
func ordinary(n int) []uint64 {
	next := numbers(uint64(n))
	var l []uint64
	for range n {
		l = append(l, max(1, next()))
	}
	return l
}

// shortLists returns all lists of at most length of the given words.
func shortLists(length int, words ...uint64) [][]uint64 {
	l := [][]uint64{nil}
	for i := 0; i < len(l); i++ {
		if len(l[i]) == length {
			continue
		}
		for _, word := range words {
			l = append(l, append(slices.Clone(l[i]), word))
		}
	}
	return l
}

// lists returns short lists of words at the bounds, and ordinary lists of all short and of some greater lengths.
func lists() [][]uint64 {
	l := shortLists(4, 0, 1, 2, 1<<63, all-1, all)
	for n := range 70 {
		l = append(l, ordinary(n))
	}
	return append(l, ordinary(255), ordinary(256), ordinary(257), ordinary(4096))
}

// indices returns indices of a list, also its last ones, and others that it does not have. Some of these agree with indices of the list in their lower bits or without their sign.
func indices(l []uint64) []uint64 {
	n := uint64(len(l))
	r := []uint64{n, n + 1, n + 63, 2 * n, 1 << 31, all - 1, all, all / 2}
	for i := range min(n, 20) {
		r = append(r, i, n-1-i, i+1<<8, i+1<<16, i+1<<32, i+1<<63, -i, ^i)
	}
	return r
}

// element returns the element with the index i, or 0 if there is none.
func element(l []uint64, i uint64) uint64 {
	if i < uint64(len(l)) {
		return l[i]
	}
	return 0
}

// P11.1

func TestRead(t *testing.T) {
	for _, l := range lists() {
		for _, i := range indices(l) {
			if got, want := array.Read(nil, l, i), element(l, i); got != want {
				t.Errorf("Read of %d in %d elements is %x, want %x", i, len(l), got, want)
			}
		}
	}
}

func TestWrite(t *testing.T) {
	for _, l := range lists() {
		for k, i := range indices(l) {
			x := []uint64{0, all, 1, 0x123456789abcdef0}[k%4]
			got, want := slices.Clone(l), slices.Clone(l)
			if i < uint64(len(l)) {
				want[i] = x
			}
			array.Write(nil, got, i, x)
			if !slices.Equal(got, want) {
				t.Errorf("after Write of %x at %d, %x is %x", x, i, l, got)
			}
		}
	}
}

func TestReadAndWriteExamples(t *testing.T) {
	l := []uint64{5, 8, 7}
	for i, want := range []uint64{5, 8, 7, 0, 0} {
		if got := array.Read(nil, l, uint64(i)); got != want {
			t.Errorf("Read of %d is %d, want %d", i, got, want)
		}
	}
	array.Write(nil, l, 1, 9)
	array.Write(nil, l, 3, 1)
	array.Write(nil, l, all, 1)
	if !slices.Equal(l, []uint64{5, 9, 7}) {
		t.Errorf("after Write, the list is %v", l)
	}
}

func TestReadOfEqualElements(t *testing.T) {
	l := []uint64{6, 6, 6}
	for i, want := range []uint64{6, 6, 6, 0} {
		if got := array.Read(nil, l, uint64(i)); got != want {
			t.Errorf("Read of %d is %d, want %d", i, got, want)
		}
	}
}

func TestListsWithoutElements(t *testing.T) {
	for _, l := range [][]uint64{nil, {}, ordinary(3)[:0]} {
		for _, i := range indices(l) {
			if got := array.Read(nil, l, i); got != 0 {
				t.Errorf("Read of %d is %x, want 0", i, got)
			}
			array.Write(nil, l, i, 1)
		}
		if count, first := array.Count(nil, l), array.First(nil, l); count != 0 || first != 0 {
			t.Errorf("Count is %d, First is %d", count, first)
		}
		if every, some := array.All(nil, l), array.Some(nil, l); every != all || some != 0 {
			t.Errorf("All is %x, Some is %x", every, some)
		}
	}
}

// TestMemoryAroundTheList uses lists that are parts of longer ones, whose other elements would change each result.
func TestMemoryAroundTheList(t *testing.T) {
	const before, after = 3, 5
	for n := range 10 {
		l := slices.Repeat([]uint64{6}, n)
		whole := slices.Concat([]uint64{1, 1, 1}, l, []uint64{1, 1, 1, 1, 1})
		part := whole[before : before+n]
		for _, f := range functions {
			for i := -before; i < n+after; i++ {
				kept := slices.Clone(whole)
				if got, want := f.call(nil, part, uint64(i), 4), f.call(nil, slices.Clone(l), uint64(i), 4); got != want {
					t.Errorf("%s in a part with the argument %d is %x, want %x", f.name, i, got, want)
				}
				if f.kind == api.Write && i >= 0 && i < n {
					kept[before+i] = 4
				}
				if !slices.Equal(whole, kept) {
					t.Fatalf("after %s in a part with the argument %d, the whole list is %v, want %v", f.name, i, whole, kept)
				}
				copy(part, l)
			}
		}
	}
}

func TestOnlyWriteChangesElements(t *testing.T) {
	for _, l := range lists() {
		kept := slices.Clone(l)
		for _, f := range functions {
			if f.kind == api.Read {
				f.call(tape.New(), l, 0, 9)
			}
		}
		if !slices.Equal(l, kept) {
			t.Errorf("%x became %x", kept, l)
		}
	}
}

// P11.2

// odd returns the number of elements whose lowest bit is 1, and the index of the first one, or the length if there is none.
func odd(l []uint64) (count, first uint64) {
	first = uint64(len(l))
	for i, x := range slices.Backward(l) {
		if x%2 == 1 {
			count++
			first = uint64(i)
		}
	}
	return count, first
}

// checkOdd compares Count and First with what they should be.
func checkOdd(t *testing.T, l []uint64) {
	t.Helper()
	count, first := odd(l)
	if got := array.Count(nil, l); got != count {
		t.Errorf("Count of %x is %d, want %d", l, got, count)
	}
	if got := array.First(nil, l); got != first {
		t.Errorf("First of %x is %d, want %d", l, got, first)
	}
}

func TestCountAndFirst(t *testing.T) {
	for _, l := range lists() {
		checkOdd(t, l)
	}
}

// TestCountAndFirstOfAllPatterns uses each sequence of lowest bits below different other bits.
func TestCountAndFirstOfAllPatterns(t *testing.T) {
	for _, words := range [][2]uint64{{0, 1}, {all - 1, all}, {1 << 63, 1}, {2, all}} {
		for _, l := range shortLists(9, words[0], words[1]) {
			checkOdd(t, l)
		}
	}
}

func TestCountAndFirstOfLongLists(t *testing.T) {
	const n = 300
	for i := range n {
		l := slices.Repeat([]uint64{all - 1}, n)
		checkOdd(t, l)
		l[i] = 1
		checkOdd(t, l)
		l[n-1] = all
		checkOdd(t, l)
	}
	checkOdd(t, slices.Repeat([]uint64{all}, 100000))
	checkOdd(t, make([]uint64, 100000))
}

func TestExamples(t *testing.T) {
	for _, c := range []struct {
		l                       []uint64
		count, first, all, some uint64
	}{
		{[]uint64{5, 8, 7}, 2, 0, 0, 15},
		{[]uint64{8, 7, 5}, 2, 1, 0, 15},
		{[]uint64{2, 4, 1}, 1, 2, 0, 7},
		{[]uint64{2, 4}, 0, 2, 0, 6},
		{[]uint64{all, all}, 2, 0, all, all},
		{[]uint64{1 << 63}, 0, 1, 1 << 63, 1 << 63},
		{[]uint64{0}, 0, 1, 0, 0},
		{[]uint64{1}, 1, 0, 1, 1},
	} {
		count, first, every, some := array.Count(nil, c.l), array.First(nil, c.l), array.All(nil, c.l), array.Some(nil, c.l)
		if count != c.count || first != c.first || every != c.all || some != c.some {
			t.Errorf("for %x, Count is %d, First is %d, All is %x, Some is %x", c.l, count, first, every, some)
		}
	}
}

// P11.3

// bitByBit returns the conjunction and the disjunction of all elements, each bit of which is found on its own.
func bitByBit(l []uint64) (every, some uint64) {
	for bit := range 64 {
		isOne := func(x uint64) bool { return x>>bit%2 == 1 }
		isZero := func(x uint64) bool { return !isOne(x) }
		if !slices.ContainsFunc(l, isZero) {
			every |= 1 << bit
		}
		if slices.ContainsFunc(l, isOne) {
			some |= 1 << bit
		}
	}
	return every, some
}

// checkBits compares All and Some with what they should be.
func checkBits(t *testing.T, l []uint64) {
	t.Helper()
	every, some := bitByBit(l)
	if got := array.All(nil, l); got != every {
		t.Errorf("All of %x is %x, want %x", l, got, every)
	}
	if got := array.Some(nil, l); got != some {
		t.Errorf("Some of %x is %x, want %x", l, got, some)
	}
}

func TestAllAndSome(t *testing.T) {
	for _, l := range lists() {
		checkBits(t, l)
	}
}

// TestAllAndSomeSeeEachBit uses lists in which a single bit of a single element differs from all others.
func TestAllAndSomeSeeEachBit(t *testing.T) {
	const n = 9
	for i := range n {
		for bit := range 64 {
			for _, word := range []uint64{0, all} {
				l := slices.Repeat([]uint64{word}, n)
				l[i] ^= 1 << bit
				checkBits(t, l)
			}
		}
	}
}

// P11.4

// visited returns n events of a kind, one for each index.
func visited(kind, n int) []api.Event {
	var l []api.Event
	for i := range n {
		l = append(l, api.Event{Kind: kind, A: i})
	}
	return l
}

func TestEventsDependOnTheLengthOnly(t *testing.T) {
	for _, f := range functions {
		for _, l := range lists() {
			want := visited(f.kind, len(l))
			for _, i := range []uint64{0, uint64(len(l)) / 2, uint64(len(l)), 1 << 32, all} {
				x := tape.New()
				f.call(x, slices.Clone(l), i, i)
				if got := x.Events(); !slices.Equal(got, want) {
					t.Fatalf("%s with the argument %d records %v for %x", f.name, i, got, l)
				}
			}
		}
	}
}

func TestEventsFollowEarlierOnes(t *testing.T) {
	x := tape.New()
	x.Note(api.Pair, 7, 9)
	want := []api.Event{{Kind: api.Pair, A: 7, B: 9}}
	for n := range 5 {
		for _, f := range functions {
			f.call(x, ordinary(n), 1, 2)
			want = append(want, visited(f.kind, n)...)
		}
	}
	if got := x.Events(); !slices.Equal(got, want) {
		t.Errorf("the events are %v, want %v", got, want)
	}
}

func TestResultsDoNotDependOnTheTape(t *testing.T) {
	used := tape.New()
	for _, l := range lists() {
		for _, f := range functions {
			without, with := slices.Clone(l), slices.Clone(l)
			want, got := f.call(nil, without, 1, 5), f.call(used, with, 1, 5)
			if got != want || !slices.Equal(with, without) {
				t.Errorf("%s of %x is %x and leaves %x with a tape, and is %x and leaves %x without one", f.name, l, got, with, want, without)
			}
		}
	}
}

// P11.5

func TestReadReturnsWhatWasWrittenLast(t *testing.T) {
	for _, n := range []uint64{1, 2, 3, 17, 64} {
		next := numbers(n)
		l := make([]uint64, n)
		last := map[uint64]uint64{}
		for range 2000 {
			i, x := next()%(n+2), next()
			array.Write(nil, l, i, x)
			if i < n {
				last[i] = x
			}
			for range 3 {
				j := next() % (n + 2)
				if got := array.Read(nil, l, j); got != last[j] {
					t.Fatalf("Read of %d in %d elements is %x, want %x", j, n, got, last[j])
				}
			}
		}
	}
}

func TestFirstAgreesWithCount(t *testing.T) {
	for _, l := range lists() {
		first, count := array.First(nil, l), array.Count(nil, l)
		if (first < uint64(len(l))) != (count != 0) {
			t.Errorf("for %d elements, First is %d and Count is %d", len(l), first, count)
		}
		if read := array.Read(nil, l, first); count != 0 && read%2 == 0 {
			t.Errorf("for %d elements, First is %d, where the element is %x", len(l), first, read)
		}
	}
}
