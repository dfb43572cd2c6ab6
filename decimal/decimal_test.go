package decimal_test

import (
	"math"
	"math/big"
	"slices"
	"strings"
	"testing"

	"geofence/api"
	"geofence/decimal"
	"geofence/limb"
)

const (
	all = 1<<64 - 1
	top = 1 << 63
)

// notIntegers are slices that are not integers, some of which have capacity for the limbs of one.
var notIntegers = [][]uint64{nil, {}, []uint64{1, 2, 3}[:0], make([]uint64, api.MaxLimbs+1), slices.Repeat([]uint64{1}, 100)}

// divisors are the ends of the range, their neighbours and ordinary ones.
var divisors = []uint64{1, 2, 3, 7, 10, 1e19, 1<<32 - 1, 1 << 32, 1<<32 + 1, top - 1, top, top + 1, all - 1, all}

// power returns base^exponent.
func power(base, exponent int64) *big.Int {
	return new(big.Int).Exp(big.NewInt(base), big.NewInt(exponent), nil)
}

// limbs returns the integer of n limbs that is congruent to v.
func limbs(v *big.Int, n int) []uint64 {
	a := make([]uint64, n)
	for i := range a {
		above := new(big.Int).Rsh(v, uint(64*i))
		a[i] = above.And(above, new(big.Int).SetUint64(all)).Uint64()
	}
	return a
}

// unsigned returns the number whose limbs are those of a, regarded as unsigned.
func unsigned(a []uint64) *big.Int {
	v := new(big.Int)
	for _, x := range slices.Backward(a) {
		v.Lsh(v, 64).Add(v, new(big.Int).SetUint64(x))
	}
	return v
}

// fits returns whether v is the value of an integer of n limbs.
func fits(v *big.Int, n int) bool {
	limit := power(2, int64(64*n-1))
	return v.Cmp(limit) < 0 && v.Cmp(new(big.Int).Neg(limit)) >= 0
}

// numbers returns numbers with their negations: ordinary ones, the powers of 10 and the ends of the range of each width, each with its neighbours. Some do not fit into any integer.
func numbers() []*big.Int {
	var near []*big.Int
	for exponent := range int64(160) {
		near = append(near, power(10, exponent))
	}
	for bits := int64(63); bits <= 64*api.MaxLimbs+64; bits += 64 {
		near = append(near, power(2, bits), power(2, bits+1))
	}
	for exponent := range int64(64) {
		near = append(near, power(7, 3*exponent+1), power(2305843009213693951, exponent/7+1))
	}
	var l []*big.Int
	for _, v := range near {
		for _, step := range []int64{-1, 0, 1} {
			x := new(big.Int).Add(v, big.NewInt(step))
			l = append(l, x, new(big.Int).Neg(x))
		}
	}
	return l
}

// P4.1

func TestFormatExamples(t *testing.T) {
	for _, c := range []struct {
		a    []uint64
		want string
	}{
		{[]uint64{0, 1}, "18446744073709551616"},
		{limb.From(-5, 3), "-5"},
		{[]uint64{0}, "0"},
		{make([]uint64, api.MaxLimbs), "0"},
		{[]uint64{all}, "-1"},
		{[]uint64{all, 0}, "18446744073709551615"},
		{[]uint64{top - 1}, "9223372036854775807"},
		{[]uint64{top}, "-9223372036854775808"},
		{[]uint64{top, 0}, "9223372036854775808"},
		{[]uint64{9}, "9"},
		{[]uint64{10, 0}, "10"},
		{limb.From(-100, 8), "-100"},
		{limb.From(1000000000000000000, 2), "1000000000000000000"},
		{[]uint64{0, all}, "-18446744073709551616"},
		{[]uint64{0, top}, "-170141183460469231731687303715884105728"},
	} {
		if got := decimal.Format(c.a); got != c.want {
			t.Errorf("Format(%x) = %q, want %q", c.a, got, c.want)
		}
	}
}

func TestFormatIsDecimalForm(t *testing.T) {
	for n := 1; n <= api.MaxLimbs; n++ {
		for _, v := range numbers() {
			if !fits(v, n) {
				continue
			}
			if got := decimal.Format(limbs(v, n)); got != v.String() {
				t.Errorf("Format with %d limbs = %q, want %q", n, got, v)
			}
		}
	}
}

func TestFormatNotIntegers(t *testing.T) {
	for _, a := range notIntegers {
		if got := decimal.Format(a); got != "" {
			t.Errorf("Format of %d words = %q", len(a), got)
		}
	}
}

func TestFormatLeavesArgument(t *testing.T) {
	for n := 1; n <= api.MaxLimbs; n++ {
		for _, x := range []uint64{3, all} {
			back := slices.Repeat([]uint64{x}, n+4)
			decimal.Format(back[:n])
			if !slices.Equal(back, slices.Repeat([]uint64{x}, n+4)) {
				t.Errorf("Format changed its argument, or what lies beyond it, to %x", back)
			}
		}
	}
}

// P4.2

func TestParseNumbers(t *testing.T) {
	for n := 1; n <= api.MaxLimbs; n++ {
		for _, v := range numbers() {
			wantError, want := api.ErrRange, []uint64(nil)
			if fits(v, n) {
				wantError, want = api.OK, limbs(v, n)
			}
			if got, e := decimal.Parse(v.String(), n); e != wantError || !slices.Equal(got, want) {
				t.Errorf("Parse(%d, %d) = %x, %d, want %x, %d", v, n, got, e, want, wantError)
			}
		}
	}
}

func TestParseRange(t *testing.T) {
	for _, c := range []struct {
		s    string
		n    int
		want api.Errno
	}{
		{"9223372036854775807", 1, api.OK},
		{"9223372036854775808", 1, api.ErrRange},
		{"9223372036854775808", 2, api.OK},
		{"-9223372036854775808", 1, api.OK},
		{"-9223372036854775809", 1, api.ErrRange},
		{"18446744073709551615", 1, api.ErrRange},
		{"18446744073709551616", 1, api.ErrRange},
		{"18446744073709551617", 1, api.ErrRange},
		{"-18446744073709551616", 1, api.ErrRange},
		{"-18446744073709551617", 1, api.ErrRange},
		{"36893488147419103232", 1, api.ErrRange}, // 2^65, whose lowest limb is 0
		{"-36893488147419103231", 1, api.ErrRange},
		{"340282366920938463463374607431768211456", 1, api.ErrRange}, // 2^128
		{"6" + strings.Repeat("0", 153), 8, api.OK},
		{"9" + strings.Repeat("0", 153), 8, api.ErrRange},
		{"1" + strings.Repeat("0", 1000000), 8, api.ErrRange},
		{"-" + strings.Repeat("7", 1000000), 1, api.ErrRange},
	} {
		a, e := decimal.Parse(c.s, c.n)
		if e != c.want || (len(a) == c.n) != (e == api.OK) || e != api.OK && len(a) != 0 {
			t.Errorf("Parse(%.50q, %d) = %x, %d, want %d", c.s, c.n, a, e, c.want)
		}
	}
}

func TestParseSyntax(t *testing.T) {
	long := strings.Repeat("9", 1000)
	for _, s := range []string{
		"", "-", "--1", "-0", "00", "007", "-00", "-01", "+1", "+0", "1-", "1 ", " 1", "1\n", "\x001", "1\x00",
		"0x1", "1e3", "1.0", "1_000", "1,000", "a", "/", ":", "1/", "1:", "\u0661", "\uff11", "\u22121", "\xff",
		long + "a", "0" + long, "-0" + long, "+" + long, long + "-",
	} {
		for n := 1; n <= api.MaxLimbs; n++ {
			if a, e := decimal.Parse(s, n); e != api.ErrSyntax || len(a) != 0 {
				t.Errorf("Parse(%.50q, %d) = %x, %d", s, n, a, e)
			}
		}
	}
}

// TestParseShortTexts parses all short texts of some characters; the decimal forms among them are those that a number has.
func TestParseShortTexts(t *testing.T) {
	texts := []string{""}
	for start := 0; len(texts) < 10000; {
		end := len(texts)
		for _, s := range texts[start:end] {
			for _, c := range "-+0198 /:a" {
				texts = append(texts, s+string(c))
			}
		}
		start = end
	}
	for _, s := range texts {
		v, ok := new(big.Int).SetString(s, 10)
		wantError, want := api.ErrSyntax, []uint64(nil)
		if ok && v.String() == s {
			wantError, want = api.OK, limbs(v, 2)
		}
		if got, e := decimal.Parse(s, 2); e != wantError || !slices.Equal(got, want) {
			t.Errorf("Parse(%q, 2) = %x, %d, want %x, %d", s, got, e, want, wantError)
		}
	}
}

func TestParseNotWidths(t *testing.T) {
	for _, n := range []int{math.MinInt, -8, -1, 0, api.MaxLimbs + 1, 64, math.MaxInt} {
		for _, s := range []string{"0", "1", "-5", "", "-0", "x", strings.Repeat("9", 1000)} {
			if a, e := decimal.Parse(s, n); e != api.ErrArg || len(a) != 0 {
				t.Errorf("Parse(%.50q, %d) = %x, %d", s, n, a, e)
			}
		}
	}
}

func TestParseResultsAreSeparate(t *testing.T) {
	for _, s := range []string{"0", "12", "-12"} {
		first, _ := decimal.Parse(s, 3)
		want := slices.Clone(first)
		for i := range first {
			first[i] = 77
		}
		if got, _ := decimal.Parse(s, 3); !slices.Equal(got, want) {
			t.Errorf("Parse(%q, 3) = %x after the change of another result, want %x", s, got, want)
		}
	}
}

// P4.3

func TestDivSmallExamples(t *testing.T) {
	for _, c := range []struct {
		a        []uint64
		d        uint64
		quotient []uint64
		rest     uint64
	}{
		{[]uint64{0}, 1, []uint64{0}, 0},
		{[]uint64{7}, 2, []uint64{3}, 1},
		{[]uint64{7, 1}, 2, []uint64{top + 3, 0}, 1},
		{[]uint64{5, 0, 0}, 7, []uint64{0, 0, 0}, 5},
		{[]uint64{all}, 1, []uint64{all}, 0},
		{[]uint64{all}, all, []uint64{1}, 0},
		{[]uint64{all - 1}, all, []uint64{0}, all - 1},
		{[]uint64{all, all}, all, []uint64{1, 1}, 0},
		{[]uint64{0, top}, 2, []uint64{0, 1 << 62}, 0},
		{[]uint64{0, 1}, 10, []uint64{1844674407370955161, 0}, 6},
		{[]uint64{all, all - 1}, all, []uint64{all, 0}, all - 1},
	} {
		quotient, rest := decimal.DivSmall(c.a, c.d)
		if !slices.Equal(quotient, c.quotient) || rest != c.rest {
			t.Errorf("DivSmall(%x, %x) = %x, %x, want %x, %x", c.a, c.d, quotient, rest, c.quotient, c.rest)
		}
	}
}

// TestDivSmallIsUnsigned divides all numbers, of which the negative ones have the limbs of great unsigned numbers.
func TestDivSmallIsUnsigned(t *testing.T) {
	for n := 1; n <= api.MaxLimbs; n++ {
		for _, v := range numbers() {
			for _, d := range divisors {
				a := limbs(v, n)
				divisor := new(big.Int).SetUint64(d)
				want, wantRest := new(big.Int).QuoRem(unsigned(a), divisor, new(big.Int))
				quotient, rest := decimal.DivSmall(a, d)
				if !slices.Equal(quotient, limbs(want, n)) || rest != wantRest.Uint64() {
					t.Errorf("DivSmall(%x, %x) = %x, %x, want %x, %x", a, d, quotient, rest, want, wantRest)
				}
			}
		}
	}
}

func TestDivSmallWithoutQuotient(t *testing.T) {
	for _, a := range notIntegers {
		for _, d := range append([]uint64{0}, divisors...) {
			if quotient, rest := decimal.DivSmall(a, d); len(quotient) != 0 || rest != 0 {
				t.Errorf("DivSmall of %d words and %x = %x, %x", len(a), d, quotient, rest)
			}
		}
	}
	for n := 1; n <= api.MaxLimbs; n++ {
		for _, x := range []uint64{0, 1, all} {
			a := slices.Repeat([]uint64{x}, n)
			if quotient, rest := decimal.DivSmall(a, 0); len(quotient) != 0 || rest != 0 {
				t.Errorf("DivSmall(%x, 0) = %x, %x", a, quotient, rest)
			}
		}
	}
}

// TestDivSmallNewlyAllocated changes results, and checks that neither the arguments nor later results change, nor words beyond an argument's length.
func TestDivSmallNewlyAllocated(t *testing.T) {
	for n := 1; n <= api.MaxLimbs; n++ {
		for _, d := range divisors {
			back := slices.Repeat([]uint64{all}, n+4)
			first, _ := decimal.DivSmall(back[:n], d)
			want := slices.Clone(first)
			clear(first[:cap(first)])
			again, _ := decimal.DivSmall(back[:n], d)
			if !slices.Equal(back, slices.Repeat([]uint64{all}, n+4)) || !slices.Equal(again, want) {
				t.Errorf("DivSmall of %d limbs and %x shares memory with its argument", n, d)
			}
		}
	}
}

// P4.4

func TestParseInvertsFormat(t *testing.T) {
	for n := 1; n <= api.MaxLimbs; n++ {
		for _, v := range numbers() {
			a := limbs(v, n)
			s := decimal.Format(a)
			if got, e := decimal.Parse(s, n); e != api.OK || !slices.Equal(got, a) {
				t.Errorf("Parse(Format(%x), %d) = %x, %d", a, n, got, e)
			}
		}
	}
}

func TestFormatInvertsParse(t *testing.T) {
	for _, v := range numbers() {
		a, e := decimal.Parse(v.String(), api.MaxLimbs)
		if e == api.OK && decimal.Format(a) != v.String() {
			t.Errorf("Format(Parse(%d)) = %q", v, decimal.Format(a))
		}
	}
}

func TestQuotientTimesDivisorPlusRemainder(t *testing.T) {
	for n := 1; n <= api.MaxLimbs; n++ {
		for _, v := range numbers() {
			for _, d := range divisors {
				a := limbs(v, n)
				quotient, rest := decimal.DivSmall(a, d)
				dividend := new(big.Int).Mul(unsigned(quotient), new(big.Int).SetUint64(d))
				dividend.Add(dividend, new(big.Int).SetUint64(rest))
				if rest >= d || dividend.Cmp(unsigned(a)) != 0 {
					t.Errorf("DivSmall(%x, %x) = %x, %x", a, d, quotient, rest)
				}
			}
		}
	}
}
