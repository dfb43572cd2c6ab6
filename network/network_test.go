package network_test

import (
	"iter"
	"math"
	"slices"
	"sync"
	"testing"

	"geofence/api"
	"geofence/network"
)

const all = 1<<64 - 1

// comparators names the elements of a list of type network.Comparator shortly.
type comparators = []network.Comparator

// sizes are all numbers for which there is a network.
var sizes = []int{1, 2, 4, 8, 16, 32, 64, 128, 256, 512, 1024, 2048, 4096}

// others returns numbers for which there is no network: all up to twice api.MaxPoints, and greater and negative ones, also powers of two, their negatives, and numbers whose lower bits are those of a size.
func others() []int {
	l := []int{math.MinInt + 1, math.MaxInt, math.MaxInt - 1}
	for n := -100; n <= 2*api.MaxPoints; n++ {
		if !slices.Contains(sizes, n) {
			l = append(l, n)
		}
	}
	for bit := range 64 {
		for _, n := range []int{1 << bit, 1<<bit + 4, -(1 << bit)} {
			if !slices.Contains(sizes, n) {
				l = append(l, n)
			}
		}
	}
	return l
}

// rounds returns the comparators of each round of the network for n. It goes through the pairs that each round consists of, and not through all indices.
func rounds(n int) []comparators {
	var l []comparators
	for k := 2; k <= n; k *= 2 {
		for j := k / 2; j >= 1; j /= 2 {
			var round comparators
			for first := 0; first < n; first += 2 * j {
				for i := first; i < first+j; i++ {
					c := network.Comparator{Low: i, High: i + j}
					if first/k%2 == 1 {
						c.Low, c.High = c.High, c.Low
					}
					round = append(round, c)
				}
			}
			l = append(l, round)
		}
	}
	return l
}

// numbers returns a function that returns another word at each call, and the same ones for the same seed.
func numbers(seed uint64) func() uint64 {
	x := seed
	return func() uint64 {
		x = x*6364136223846793005 + 1442695040888963407
		return x ^ x>>29
	}
}

// ordinary returns n words from the whole range.
func ordinary(n int) []uint64 {
	next := numbers(uint64(n))
	var l []uint64
	for range n {
		l = append(l, next())
	}
	return l
}

// P12.1

func TestSize(t *testing.T) {
	want := 1
	for n := 1; n <= api.MaxPoints; n++ {
		if want < n {
			want *= 2
		}
		if got := network.Size(n); got != want {
			t.Errorf("Size of %d is %d, want %d", n, got, want)
		}
	}
}

func TestSizeOfOtherNumbers(t *testing.T) {
	for _, n := range others() {
		if got := network.Size(n); (n < 1 || n > api.MaxPoints) && got != 0 {
			t.Errorf("Size of %d is %d, want 0", n, got)
		}
	}
}

func TestSizeExamples(t *testing.T) {
	for _, c := range []struct{ n, want int }{
		{5, 8}, {-1, 0}, {0, 0}, {1, 1}, {2, 2}, {3, 4}, {4, 4}, {2047, 2048}, {2048, 2048}, {2049, 4096}, {4095, 4096}, {4096, 4096}, {4097, 0}, {math.MinInt, 0}, {math.MaxInt, 0},
	} {
		if got := network.Size(c.n); got != c.want {
			t.Errorf("Size of %d is %d, want %d", c.n, got, c.want)
		}
	}
}

// P12.2

// checkNetwork compares All and Comparators for n with what they should yield and return.
func checkNetwork(t *testing.T, n int, want comparators) {
	t.Helper()
	if got := network.Comparators(n); !slices.Equal(got, want) {
		t.Errorf("Comparators of %d are %v, want %v", n, got, want)
	}
	if got := slices.Collect(network.All(n)); !slices.Equal(got, want) {
		t.Errorf("All of %d yields %v, want %v", n, got, want)
	}
}

func TestNetworkExamples(t *testing.T) {
	checkNetwork(t, 1, nil)
	checkNetwork(t, 2, comparators{{0, 1}})
	checkNetwork(t, 4, comparators{{0, 1}, {3, 2}, {0, 2}, {1, 3}, {0, 1}, {2, 3}})
	checkNetwork(t, 8, comparators{
		{0, 1}, {3, 2}, {4, 5}, {7, 6},
		{0, 2}, {1, 3}, {6, 4}, {7, 5},
		{0, 1}, {2, 3}, {5, 4}, {7, 6},
		{0, 4}, {1, 5}, {2, 6}, {3, 7},
		{0, 2}, {1, 3}, {4, 6}, {5, 7},
		{0, 1}, {2, 3}, {4, 5}, {6, 7},
	})
}

func TestNetworks(t *testing.T) {
	for _, n := range sizes {
		checkNetwork(t, n, slices.Concat(rounds(n)...))
	}
}

func TestNoNetwork(t *testing.T) {
	for _, n := range others() {
		checkNetwork(t, n, nil)
		if got := network.Rounds(n); got != 0 {
			t.Errorf("Rounds of %d is %d, want 0", n, got)
		}
	}
}

func TestRounds(t *testing.T) {
	for i, want := range []int{0, 1, 3, 6, 10, 15, 21, 28, 36, 45, 55, 66, 78} {
		n := sizes[i]
		if got := network.Rounds(n); got != want || got != len(rounds(n)) {
			t.Errorf("Rounds of %d is %d, want %d", n, got, want)
		}
	}
}

// take asks for the given number of comparators, and returns them and how often one was yielded.
func take(seq iter.Seq[network.Comparator], count int) (taken comparators, calls int) {
	seq(func(c network.Comparator) bool {
		calls++
		taken = append(taken, c)
		return calls < count
	})
	return taken, calls
}

func TestNoMoreThanAskedFor(t *testing.T) {
	for _, n := range []int{2, 4, 8, 16, 32, 64} {
		want := slices.Concat(rounds(n)...)
		for count := 1; count <= len(want)+1; count++ {
			expected := want[:min(count, len(want))]
			if got, calls := take(network.All(n), count); calls != len(expected) || !slices.Equal(got, expected) {
				t.Errorf("asked for %d, All of %d yields %v in %d calls", count, n, got, calls)
			}
		}
	}
}

func TestLeavingALoop(t *testing.T) {
	var got comparators
outer:
	for c := range network.All(4) {
		for d := range network.All(8) {
			if d.High == 5 {
				continue outer
			}
			if c.Low == 0 && c.High == 2 {
				break outer
			}
			got = append(got, c, d)
		}
	}
	want := comparators{{0, 1}, {0, 1}, {0, 1}, {3, 2}, {3, 2}, {0, 1}, {3, 2}, {3, 2}}
	if !slices.Equal(got, want) {
		t.Errorf("the loops took %v, want %v", got, want)
	}
}

func TestSequencesStartAnew(t *testing.T) {
	for _, n := range []int{2, 8, 4096} {
		seq, want := network.All(n), slices.Concat(rounds(n)...)
		for _, count := range []int{1, len(want) / 2, len(want), len(want), 1} {
			count = max(count, 1)
			if got, _ := take(seq, count); !slices.Equal(got, want[:count]) {
				t.Errorf("asked for %d again, the sequence for %d does not yield them in order", count, n)
			}
		}
	}
}

func TestListsAreIndependent(t *testing.T) {
	for _, n := range sizes {
		want := slices.Concat(rounds(n)...)
		for range 2 {
			got := network.Comparators(n)
			if !slices.Equal(got, want) {
				t.Fatalf("Comparators of %d differ after an earlier list was changed", n)
			}
			clear(got[:cap(got)])
		}
		checkNetwork(t, n, want)
	}
}

func TestConcurrentCalls(t *testing.T) {
	seq, want := network.All(64), slices.Concat(rounds(64)...)
	var group sync.WaitGroup
	for range 8 {
		group.Go(func() {
			if !slices.Equal(slices.Collect(seq), want) || !slices.Equal(network.Comparators(64), want) {
				t.Error("a concurrent call yields other comparators")
			}
		})
	}
	group.Wait()
}

// P12.3

// ordered returns the words of a list, taken through the network for its length round by round.
func ordered(l []uint64) []uint64 {
	r := slices.Clone(l)
	for _, c := range slices.Concat(rounds(len(l))...) {
		if r[c.Low] > r[c.High] {
			r[c.Low], r[c.High] = r[c.High], r[c.Low]
		}
	}
	return r
}

// checkApply compares Apply of a list with the list after the comparators, and with the sorted list.
func checkApply(t *testing.T, l []uint64) {
	t.Helper()
	kept := slices.Clone(l)
	got := network.Apply(l)
	if !slices.Equal(got, ordered(kept)) || !slices.Equal(got, slices.Sorted(slices.Values(kept))) {
		t.Errorf("Apply of %x is %x", kept, got)
	}
	if !slices.Equal(l, kept) {
		t.Errorf("Apply changed %x to %x", kept, l)
	}
}

func TestApplyExamples(t *testing.T) {
	for _, c := range []struct{ l, want []uint64 }{
		{[]uint64{7}, []uint64{7}},
		{[]uint64{2, 1}, []uint64{1, 2}},
		{[]uint64{1, 2}, []uint64{1, 2}},
		{[]uint64{4, 3, 2, 1}, []uint64{1, 2, 3, 4}},
		{[]uint64{all, 5, 1 << 63, 0}, []uint64{0, 5, 1 << 63, all}},
		{[]uint64{1 << 63, 1<<63 - 1}, []uint64{1<<63 - 1, 1 << 63}},
		{[]uint64{3, 1, 3, 1}, []uint64{1, 1, 3, 3}},
		{[]uint64{8, 7, 6, 5, 4, 3, 2, 1}, []uint64{1, 2, 3, 4, 5, 6, 7, 8}},
	} {
		if got := network.Apply(c.l); !slices.Equal(got, c.want) {
			t.Errorf("Apply of %v is %v, want %v", c.l, got, c.want)
		}
	}
}

func TestApplyWithoutANetwork(t *testing.T) {
	for _, n := range others() {
		if n < 0 || n > 2*api.MaxPoints {
			continue
		}
		if got := network.Apply(ordinary(n)); len(got) != 0 {
			t.Errorf("Apply of %d words returns %d", n, len(got))
		}
	}
	for _, l := range [][]uint64{nil, {}, ordinary(4)[:0], ordinary(4)[:3], make([]uint64, 3, 4), make([]uint64, 1<<16)} {
		if got := network.Apply(l); len(got) != 0 {
			t.Errorf("Apply of %d words with room for %d returns %d", len(l), cap(l), len(got))
		}
	}
}

// TestApplyComparesAllBits uses pairs of words that differ in a single bit, below and above different other bits.
func TestApplyComparesAllBits(t *testing.T) {
	next := numbers(1)
	for bit := range 64 {
		for _, x := range []uint64{0, all, next(), next()} {
			checkApply(t, []uint64{x, x ^ 1<<bit})
			checkApply(t, []uint64{x ^ 1<<bit, x})
			checkApply(t, []uint64{x ^ 1<<bit, x, ^x, ^x ^ 1<<bit})
		}
	}
}

func TestApplyToWordsAtTheBounds(t *testing.T) {
	words := []uint64{0, 1, 1<<63 - 1, 1 << 63, all - 1, all}
	for _, a := range words {
		checkApply(t, []uint64{a})
		for _, b := range words {
			checkApply(t, []uint64{a, b})
			for _, c := range words {
				for _, d := range words {
					checkApply(t, []uint64{a, b, c, d})
				}
			}
		}
	}
}

func TestApplyReturnsNewMemory(t *testing.T) {
	for _, n := range sizes {
		whole := ordinary(n + 7)
		kept := slices.Clone(whole)
		l := whole[3 : 3+n]
		first := network.Apply(l)
		want := slices.Clone(first)
		second := network.Apply(l)
		clear(second[:cap(second)])
		if !slices.Equal(whole, kept) || !slices.Equal(first, want) {
			t.Errorf("a result of Apply for %d words shares memory with its argument or with another result", n)
		}
		clear(whole)
		if !slices.Equal(first, want) {
			t.Errorf("the result of Apply for %d words changes with its argument", n)
		}
	}
}

// P12.4

// TestApplySortsZerosAndOnes uses all lists of two words. A network that sorts these sorts all lists.
func TestApplySortsZerosAndOnes(t *testing.T) {
	for _, n := range []int{1, 2, 4, 8, 16} {
		for pattern := range 1 << n {
			l := make([]uint64, n)
			ones := 0
			for i := range l {
				l[i] = uint64(pattern >> i & 1)
				ones += pattern >> i & 1
			}
			want := slices.Concat(slices.Repeat([]uint64{0}, n-ones), slices.Repeat([]uint64{1}, ones))
			if got := network.Apply(l); !slices.Equal(got, want) {
				t.Fatalf("Apply of %v is %v", l, got)
			}
		}
	}
}

func TestApplySortsLists(t *testing.T) {
	for _, n := range sizes {
		l := ordinary(n)
		checkApply(t, l)
		slices.Sort(l)
		checkApply(t, l)
		slices.Reverse(l)
		checkApply(t, l)
		for i := range l {
			l[i] %= 7
		}
		checkApply(t, l)
		checkApply(t, slices.Repeat([]uint64{all}, n))
		for _, i := range []int{0, n / 3, n - 1} {
			single := make([]uint64, n)
			single[i] = 1
			checkApply(t, single)
		}
	}
}

func TestEachRoundContainsEachIndexOnce(t *testing.T) {
	for r, n := range sizes {
		l := network.Comparators(n)
		count := network.Rounds(n)
		if count != r*(r+1)/2 || len(l) != count*n/2 {
			t.Errorf("the network for %d has %d rounds and %d comparators", n, count, len(l))
			continue
		}
		for round := range count {
			seen := make([]int, n)
			for _, c := range l[round*n/2 : (round+1)*n/2] {
				seen[c.Low]++
				seen[c.High]++
			}
			if slices.Min(seen) != 1 || slices.Max(seen) != 1 {
				t.Errorf("round %d of the network for %d does not contain each index once", round, n)
			}
		}
	}
}
