package limb_test

import (
	"math"
	"math/big"
	"slices"
	"testing"

	"geofence/api"
	"geofence/limb"
)

const (
	all      = 1<<64 - 1
	top      = 1 << 63
	least    = math.MinInt64
	greatest = math.MaxInt64
)

// notWidths are numbers of limbs that no integer has.
var notWidths = []int{math.MinInt, -8, -1, 0, api.MaxLimbs + 1, 64, math.MaxInt}

// masks have a lowest bit of 0 or 1, with various other bits.
var masks = []uint64{0, 1, 2, 3, top, top + 1, all - 1, all}

// value returns the value that the chapter gives the limbs of a.
func value(a []uint64) *big.Int {
	v := new(big.Int)
	for _, x := range slices.Backward(a) {
		v.Lsh(v, 64).Add(v, new(big.Int).SetUint64(x))
	}
	if a[len(a)-1] >= top {
		v.Sub(v, power(64*len(a)))
	}
	return v
}

// limbs returns the integer of n limbs that is congruent to v.
func limbs(v *big.Int, n int) []uint64 {
	rest := new(big.Int).Mod(v, power(64*n))
	a := make([]uint64, n)
	for i := range a {
		a[i] = new(big.Int).And(rest, new(big.Int).SetUint64(all)).Uint64()
		rest.Rsh(rest, 64)
	}
	return a
}

// power returns 2^bits.
func power(bits int) *big.Int { return new(big.Int).Lsh(big.NewInt(1), uint(bits)) }

// fits returns whether v is the value of an integer of n limbs.
func fits(v *big.Int, n int) bool {
	limit := power(64*n - 1)
	return v.Cmp(limit) < 0 && v.Cmp(new(big.Int).Neg(limit)) >= 0
}

func of(holds bool) uint64 {
	if holds {
		return all
	}
	return 0
}

// integers returns integers of n limbs: the ends of the range of each width up to n, their neighbours, powers of 2^64 with theirs, and ordinary ones.
func integers(n int) [][]uint64 {
	var values []*big.Int
	for width := 1; width <= n; width++ {
		for _, bits := range []int{64 * width, 64*width - 1, 64*width - 64} {
			values = append(values, power(bits), new(big.Int).Neg(power(bits)))
		}
	}
	var l [][]uint64
	for _, v := range values {
		for _, near := range []int64{-1, 0, 1} {
			l = append(l, limbs(new(big.Int).Add(v, big.NewInt(near)), n))
		}
	}
	x := uint64(n)
	for range 8 {
		a := make([]uint64, n)
		for i := range a {
			x = x*6364136223846793005 + 1442695040888963407
			a[i] = x
		}
		l = append(l, a)
	}
	slices.SortFunc(l, slices.Compare)
	return slices.CompactFunc(l, slices.Equal)
}

// widths returns all numbers of limbs that an integer may have.
func widths() []int {
	var l []int
	for n := range api.MaxLimbs {
		l = append(l, n+1)
	}
	return l
}

// notIntegers returns slices that are not integers, some of which have capacity for the limbs of one.
func notIntegers() [][]uint64 {
	return [][]uint64{nil, {}, make([]uint64, 0, 4), []uint64{1, 2, 3}[:0], make([]uint64, api.MaxLimbs+1), make([]uint64, 100)}
}

// unary are the functions of one integer that return one, with numbers of limbs among their arguments.
func unary(n int) map[string]func(a []uint64) []uint64 {
	return map[string]func(a []uint64) []uint64{
		"Extend": func(a []uint64) []uint64 { return limb.Extend(a, n) },
		"Neg":    limb.Neg,
	}
}

// binary are the functions of two integers that return one.
func binary() map[string]func(a, b []uint64) []uint64 {
	return map[string]func(a, b []uint64) []uint64{
		"Add":        limb.Add,
		"Sub":        limb.Sub,
		"Mul":        limb.Mul,
		"Select all": func(a, b []uint64) []uint64 { return limb.Select(all, a, b) },
		"Select 0":   func(a, b []uint64) []uint64 { return limb.Select(0, a, b) },
	}
}

// P3.1

func TestNotIntegers(t *testing.T) {
	for _, a := range notIntegers() {
		for name, f := range unary(2) {
			if got := f(a); len(got) != 0 {
				t.Errorf("%s of %d words = %x", name, len(a), got)
			}
		}
		for name, f := range binary() {
			for _, b := range append(notIntegers(), []uint64{1}, []uint64{1, 2}) {
				if got := f(a, b); len(got) != 0 {
					t.Errorf("%s of %d and %d words = %x", name, len(a), len(b), got)
				}
				if got := f(b, a); len(got) != 0 {
					t.Errorf("%s of %d and %d words = %x", name, len(b), len(a), got)
				}
			}
		}
		// Limbs of 1 would make the signs 1.
		ones := slices.Repeat([]uint64{1}, len(a))
		if got := limb.Sign(ones); got != 0 {
			t.Errorf("Sign of %d words = %d", len(a), got)
		}
		if got := limb.Compare(ones, a); got != 0 {
			t.Errorf("Compare of %d words = %d", len(a), got)
		}
		for _, n := range widths() {
			if got := limb.Fits(a, n); got != 0 {
				t.Errorf("Fits(%d words, %d) = %x", len(a), n, got)
			}
		}
	}
}

func TestNotWidths(t *testing.T) {
	for _, n := range notWidths {
		for _, x := range []int64{least, -1, 0, 1, greatest} {
			if got := limb.From(x, n); len(got) != 0 {
				t.Errorf("From(%d, %d) = %x", x, n, got)
			}
		}
		for _, width := range widths() {
			a := make([]uint64, width)
			if got := limb.Extend(a, n); len(got) != 0 {
				t.Errorf("Extend(%d limbs, %d) = %x", width, n, got)
			}
			if got := limb.Fits(a, n); got != 0 {
				t.Errorf("Fits(%d limbs, %d) = %x", width, n, got)
			}
		}
		if limb.Fits(nil, n) != 0 || len(limb.Extend(nil, n)) != 0 {
			t.Errorf("Fits or Extend of nil and %d", n)
		}
	}
}

func TestWidthsTogether(t *testing.T) {
	for _, n := range widths() {
		for _, m := range widths() {
			a, b := slices.Repeat([]uint64{1}, n), slices.Repeat([]uint64{2}, m)
			for name, f := range binary() {
				want := n
				if name == "Mul" {
					want = n + m
					if n+m > api.MaxLimbs {
						want = 0
					}
				} else if n != m {
					want = 0
				}
				if got := f(a, b); len(got) != want {
					t.Errorf("%s of %d and %d limbs has %d", name, n, m, len(got))
				}
			}
			want := int64(0)
			if n == m {
				want = -1
			}
			if got := limb.Compare(a, b); got != want {
				t.Errorf("Compare of %d and %d limbs = %d, want %d", n, m, got, want)
			}
		}
	}
}

// TestNewlyAllocated changes results, and checks that neither the arguments nor later results change, nor words beyond an argument's length.
func TestNewlyAllocated(t *testing.T) {
	for _, n := range widths() {
		for name, f := range unary(n) {
			back := slices.Repeat([]uint64{3}, n+4)
			first := f(back[:n])
			want := slices.Clone(first)
			clear(first[:cap(first)])
			if slices.Contains(back, 0) || !slices.Equal(f(back[:n]), want) {
				t.Errorf("%s of %d limbs shares memory with its argument", name, n)
			}
		}
		for name, f := range binary() {
			m := n
			if name == "Mul" {
				m = api.MaxLimbs - n
			}
			if m == 0 {
				continue
			}
			backA, backB := slices.Repeat([]uint64{7}, n+4), slices.Repeat([]uint64{5}, m+4)
			first := f(backA[:n], backB[:m])
			want := slices.Clone(first)
			clear(first[:cap(first)])
			if slices.Contains(backA, 0) || slices.Contains(backB, 0) || !slices.Equal(f(backA[:n], backB[:m]), want) {
				t.Errorf("%s of %d and %d limbs shares memory with its arguments", name, n, m)
			}
		}
		first := limb.From(-1, n)
		clear(first)
		if got := limb.From(-1, n); slices.Contains(got, 0) {
			t.Errorf("From(-1, %d) = %x after the change of another result", n, got)
		}
	}
}

// TestArgumentsRemain passes the same integers to all functions, as one argument and as both, and checks that they remain as they were.
func TestArgumentsRemain(t *testing.T) {
	for _, n := range widths() {
		for _, a := range integers(n) {
			before := slices.Clone(a)
			for _, f := range unary(n) {
				f(a)
			}
			for _, f := range binary() {
				f(a, a)
			}
			limb.Sign(a)
			limb.Compare(a, a)
			limb.Fits(a, 1)
			if !slices.Equal(a, before) {
				t.Errorf("%x became %x", before, a)
			}
		}
	}
}

// P3.2

func TestFrom(t *testing.T) {
	for _, n := range widths() {
		for _, x := range []int64{least, least + 1, -1 << 32, -2, -1, 0, 1, 2, 1 << 32, greatest - 1, greatest} {
			got := limb.From(x, n)
			if len(got) != n || value(got).Cmp(big.NewInt(x)) != 0 {
				t.Errorf("From(%d, %d) = %x", x, n, got)
			}
		}
	}
}

func TestExtend(t *testing.T) {
	for _, width := range widths() {
		for _, a := range integers(width) {
			for _, n := range widths() {
				got, want := limb.Extend(a, n), limbs(value(a), n)
				if !slices.Equal(got, want) {
					t.Errorf("Extend(%x, %d) = %x, want %x", a, n, got, want)
				}
				same := value(got).Cmp(value(a)) == 0
				if same != (n >= width || fits(value(a), n)) {
					t.Errorf("Extend(%x, %d) = %x", a, n, got)
				}
			}
		}
	}
}

func TestFromAndExtendExamples(t *testing.T) {
	for i, c := range []struct{ got, want []uint64 }{
		{limb.From(-1, 2), []uint64{all, all}},
		{limb.From(0, 1), []uint64{0}},
		{limb.From(least, 1), []uint64{top}},
		{limb.From(least, 2), []uint64{top, all}},
		{limb.From(greatest, 2), []uint64{top - 1, 0}},
		{limb.From(5, 8), []uint64{5, 0, 0, 0, 0, 0, 0, 0}},
		{limb.Extend([]uint64{0, top}, 4), []uint64{0, top, all, all}},
		{limb.Extend([]uint64{top, 0}, 4), []uint64{top, 0, 0, 0}},
		{limb.Extend([]uint64{top, 0}, 2), []uint64{top, 0}},
		{limb.Extend([]uint64{top, 0}, 1), []uint64{top}},
		{limb.Extend([]uint64{1, 2, 3, 4, 5, 6, 7, 8}, 3), []uint64{1, 2, 3}},
	} {
		if !slices.Equal(c.got, c.want) {
			t.Errorf("%d: %x, want %x", i, c.got, c.want)
		}
	}
}

// P3.3

func TestAddSubAndNegExamples(t *testing.T) {
	for i, c := range []struct{ got, want []uint64 }{
		{limb.Add([]uint64{all, all, 0}, []uint64{1, 0, 0}), []uint64{0, 0, 1}},
		{limb.Add([]uint64{top - 1}, []uint64{1}), []uint64{top}},
		{limb.Add([]uint64{top}, []uint64{top}), []uint64{0}},
		{limb.Add([]uint64{all, all}, []uint64{all, all}), []uint64{all - 1, all}},
		{limb.Sub([]uint64{0, 0, 0}, []uint64{1, 0, 0}), []uint64{all, all, all}},
		{limb.Sub([]uint64{top}, []uint64{1}), []uint64{top - 1}},
		{limb.Sub([]uint64{0, 0, 1}, []uint64{1, 0, 0}), []uint64{all, all, 0}},
		{limb.Sub([]uint64{5, 5}, []uint64{5, 5}), []uint64{0, 0}},
		{limb.Neg([]uint64{0}), []uint64{0}},
		{limb.Neg([]uint64{1, 0}), []uint64{all, all}},
		{limb.Neg([]uint64{0, top}), []uint64{0, top}},
		{limb.Neg([]uint64{1, top}), []uint64{all, top - 1}},
	} {
		if !slices.Equal(c.got, c.want) {
			t.Errorf("%d: %x, want %x", i, c.got, c.want)
		}
	}
}

func TestAddAndSubAreCongruent(t *testing.T) {
	for _, n := range widths() {
		for _, a := range integers(n) {
			for _, b := range integers(n) {
				sum := new(big.Int).Add(value(a), value(b))
				if got, want := limb.Add(a, b), limbs(sum, n); !slices.Equal(got, want) {
					t.Errorf("Add(%x, %x) = %x, want %x", a, b, got, want)
				}
				difference := new(big.Int).Sub(value(a), value(b))
				if got, want := limb.Sub(a, b), limbs(difference, n); !slices.Equal(got, want) {
					t.Errorf("Sub(%x, %x) = %x, want %x", a, b, got, want)
				}
			}
		}
	}
}

func TestNegIsCongruent(t *testing.T) {
	for _, n := range widths() {
		for _, a := range integers(n) {
			if got, want := limb.Neg(a), limbs(new(big.Int).Neg(value(a)), n); !slices.Equal(got, want) {
				t.Errorf("Neg(%x) = %x, want %x", a, got, want)
			}
		}
	}
}

// P3.4

func TestMulExamples(t *testing.T) {
	for i, c := range []struct{ got, want []uint64 }{
		{limb.Mul(limb.From(-2, 1), limb.From(3, 1)), []uint64{all - 5, all}},
		{limb.Mul(limb.From(-2, 1), limb.From(-3, 1)), []uint64{6, 0}},
		{limb.Mul([]uint64{all}, []uint64{all, 0}), []uint64{1, all, all}},
		{limb.Mul([]uint64{0, top}, []uint64{0, top}), []uint64{0, 0, 0, 1 << 62}},
		{limb.Mul([]uint64{0, top}, []uint64{all}), []uint64{0, top, 0}},
		{limb.Mul([]uint64{0}, []uint64{all, all, all, all, all, all, all}), []uint64{0, 0, 0, 0, 0, 0, 0, 0}},
	} {
		if !slices.Equal(c.got, c.want) {
			t.Errorf("%d: %x, want %x", i, c.got, c.want)
		}
	}
}

func TestMulIsExact(t *testing.T) {
	for _, n := range widths() {
		for m := 1; n+m <= api.MaxLimbs; m++ {
			for _, a := range integers(n) {
				for _, b := range integers(m) {
					exact := new(big.Int).Mul(value(a), value(b))
					got := limb.Mul(a, b)
					if len(got) != n+m || value(got).Cmp(exact) != 0 {
						t.Errorf("Mul(%x, %x) = %x, want %x", a, b, got, limbs(exact, n+m))
					}
				}
			}
		}
	}
}

func TestSelect(t *testing.T) {
	for _, n := range widths() {
		l := integers(n)
		for i, a := range l {
			b := l[len(l)-1-i]
			for _, m := range masks {
				want := b
				if m%2 == 1 {
					want = a
				}
				if got := limb.Select(m, a, b); !slices.Equal(got, want) {
					t.Errorf("Select(%x, %x, %x) = %x", m, a, b, got)
				}
			}
		}
	}
}

// P3.5

func TestSign(t *testing.T) {
	for _, n := range widths() {
		if got := limb.Sign(make([]uint64, n)); got != 0 {
			t.Errorf("Sign of 0 with %d limbs = %d", n, got)
		}
		for _, a := range integers(n) {
			if got, want := limb.Sign(a), int64(value(a).Sign()); got != want {
				t.Errorf("Sign(%x) = %d, want %d", a, got, want)
			}
		}
	}
}

func TestSignLooksAtAllBits(t *testing.T) {
	for _, n := range widths() {
		for bit := range 64 * n {
			a := make([]uint64, n)
			a[bit/64] = 1 << (bit % 64)
			want := int64(1)
			if bit == 64*n-1 {
				want = -1
			}
			if got := limb.Sign(a); got != want {
				t.Errorf("Sign(%x) = %d, want %d", a, got, want)
			}
		}
	}
}

func TestCompareExamples(t *testing.T) {
	for _, c := range []struct {
		a, b []uint64
		want int64
	}{
		{[]uint64{0}, []uint64{0}, 0},
		{[]uint64{top}, []uint64{top - 1}, -1},
		{[]uint64{all}, []uint64{0}, -1},
		{[]uint64{top, 0}, []uint64{0, 1}, -1},
		{[]uint64{all, all}, []uint64{0, 0}, -1},
		{[]uint64{1, 2, 3}, []uint64{2, 2, 3}, -1},
		{[]uint64{9, 1, 3}, []uint64{0, 2, 3}, -1},
		{[]uint64{0, 0, top}, []uint64{all, all, top}, -1},
		{[]uint64{0, 0, 0, 0, 0, 0, 0, top}, []uint64{all, all, all, all, all, all, all, top - 1}, -1},
		{[]uint64{5, all}, []uint64{5, all}, 0},
	} {
		if got, back := limb.Compare(c.a, c.b), limb.Compare(c.b, c.a); got != c.want || back != -c.want {
			t.Errorf("Compare(%x, %x) = %d, and with both exchanged %d, want %d", c.a, c.b, got, back, c.want)
		}
	}
}

func TestFits(t *testing.T) {
	for _, width := range widths() {
		for _, a := range integers(width) {
			for _, n := range widths() {
				if got, want := limb.Fits(a, n), of(fits(value(a), n)); got != want {
					t.Errorf("Fits(%x, %d) = %x, want %x", a, n, got, want)
				}
			}
		}
	}
}

func TestFitsExamples(t *testing.T) {
	for _, c := range []struct {
		a    []uint64
		n    int
		want uint64
	}{
		{[]uint64{top - 1, 0}, 1, all},
		{[]uint64{top, 0}, 1, 0},
		{[]uint64{top, all}, 1, all},
		{[]uint64{top - 1, all}, 1, 0},
		{[]uint64{0, 0, 1}, 2, 0},
		{[]uint64{0, 1, 0}, 2, all},
		{[]uint64{0, 1, 0}, 1, 0},
		{[]uint64{0, 0, 0, 1, 0, 0, 0, 0}, 3, 0},
		{[]uint64{all, all, all, all, all, all, all, all}, 1, all},
		{[]uint64{top}, 1, all},
		{[]uint64{top}, 8, all},
	} {
		if got := limb.Fits(c.a, c.n); got != c.want {
			t.Errorf("Fits(%x, %d) = %x, want %x", c.a, c.n, got, c.want)
		}
	}
}

// P3.6

// TestExactIfItFits computes with values of half the limbs, whose sums, differences and products fit.
func TestExactIfItFits(t *testing.T) {
	for n := 2; n <= api.MaxLimbs; n += 2 {
		for _, x := range integers(n / 2) {
			for _, y := range integers(n / 2) {
				a, b := limb.Extend(x, n), limb.Extend(y, n)
				if got, want := value(limb.Add(a, b)), new(big.Int).Add(value(x), value(y)); got.Cmp(want) != 0 {
					t.Errorf("%x + %x = %d, want %d", x, y, got, want)
				}
				if got, want := value(limb.Sub(a, b)), new(big.Int).Sub(value(x), value(y)); got.Cmp(want) != 0 {
					t.Errorf("%x - %x = %d, want %d", x, y, got, want)
				}
				if got, want := value(limb.Mul(x, y)), new(big.Int).Mul(value(x), value(y)); got.Cmp(want) != 0 {
					t.Errorf("%x * %x = %d, want %d", x, y, got, want)
				}
			}
		}
	}
}

// TestCompareIsSignOfDifference includes integers whose difference does not fit into their limbs.
func TestCompareIsSignOfDifference(t *testing.T) {
	for _, n := range widths() {
		for _, a := range integers(n) {
			for _, b := range integers(n) {
				difference := new(big.Int).Sub(value(a), value(b))
				if got, want := limb.Compare(a, b), int64(difference.Sign()); got != want {
					t.Errorf("Compare(%x, %x) = %d, want %d", a, b, got, want)
				}
			}
		}
	}
}
