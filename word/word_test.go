package word_test

import (
	"math/big"
	"testing"

	"geofence/word"
)

const (
	all      = 1<<64 - 1
	least    = -1 << 63
	greatest = 1<<63 - 1
)

// carries are permitted carries and borrows: only their lowest bits count.
var carries = []uint64{0, 1, 2, 3, 1 << 63, 1<<63 + 1, all - 1, all}

// operands returns words near the powers of two that matter for carries and signs, and ordinary ones.
func operands() []uint64 {
	l := []uint64{5, 7, 1000003, 0xdeadbeef, 0x0123456789abcdef, 0xfedcba9876543210, 0x5555555555555555, 0xaaaaaaaaaaaaaaaa}
	for _, shift := range []uint{0, 1, 2, 31, 32, 33, 62, 63} {
		power := uint64(1) << shift
		l = append(l, power-1, power, power+1, -power-1, -power, -power+1)
	}
	return l
}

// number returns hi * 2^64 + lo.
func number(hi, lo uint64) *big.Int {
	n := new(big.Int).SetUint64(hi)
	return n.Lsh(n, 64).Add(n, new(big.Int).SetUint64(lo))
}

func unsigned(a uint64) *big.Int { return new(big.Int).SetUint64(a) }

// modulo returns the remainder of n, which may be negative, modulo 2^bits.
func modulo(n *big.Int, bits uint) *big.Int {
	return new(big.Int).Mod(n, new(big.Int).Lsh(big.NewInt(1), bits))
}

// P2.1

func TestAddAndSubExamples(t *testing.T) {
	for _, c := range []struct{ a, b, carry, sum, out, difference, borrow uint64 }{
		{0, 0, 0, 0, 0, 0, 0},
		{0, 0, 1, 1, 0, all, 1},
		{all, 1, 0, 0, 1, all - 1, 0},
		{all, 0, 1, 0, 1, all - 1, 0},
		{all, 0, 0, all, 0, all, 0},
		{0, all, 0, all, 0, 1, 1},
		{0, all, 1, 0, 1, 0, 1},
		{all, all, 0, all - 1, 1, 0, 0},
		{all, all, 1, all, 1, all, 1},
		{1 << 63, 1 << 63, 0, 0, 1, 0, 0},
		{1<<63 - 1, 1 << 63, 0, all, 0, all, 1},
		{1<<63 - 1, 1 << 63, 1, 0, 1, all - 1, 1},
		{5, 7, 0, 12, 0, all - 1, 1},
		{7, 5, 1, 13, 0, 1, 0},
		{7, 5, 2, 12, 0, 2, 0},
		{7, 5, 3, 13, 0, 1, 0},
		{7, 5, all, 13, 0, 1, 0},
		{7, 5, all - 1, 12, 0, 2, 0},
	} {
		if sum, out := word.Add(c.a, c.b, c.carry); sum != c.sum || out != c.out {
			t.Errorf("Add(%x, %x, %x) = %x, %x, want %x, %x", c.a, c.b, c.carry, sum, out, c.sum, c.out)
		}
		if difference, out := word.Sub(c.a, c.b, c.carry); difference != c.difference || out != c.borrow {
			t.Errorf("Sub(%x, %x, %x) = %x, %x, want %x, %x", c.a, c.b, c.carry, difference, out, c.difference, c.borrow)
		}
	}
}

func TestAddIsExact(t *testing.T) {
	for _, a := range operands() {
		for _, b := range operands() {
			for _, carry := range carries {
				exact := unsigned(a)
				exact.Add(exact, unsigned(b)).Add(exact, unsigned(carry%2))
				if sum, out := word.Add(a, b, carry); out > 1 || number(out, sum).Cmp(exact) != 0 {
					t.Errorf("Add(%x, %x, %x) = %x, %x, want %x in all", a, b, carry, sum, out, exact)
				}
			}
		}
	}
}

func TestSubIsExact(t *testing.T) {
	for _, a := range operands() {
		for _, b := range operands() {
			for _, borrow := range carries {
				exact := unsigned(a)
				exact.Sub(exact, unsigned(b)).Sub(exact, unsigned(borrow%2))
				difference, out := word.Sub(a, b, borrow)
				got := unsigned(difference)
				if out > 1 || got.Sub(got, number(out, 0)).Cmp(exact) != 0 {
					t.Errorf("Sub(%x, %x, %x) = %x, %x, want %x in all", a, b, borrow, difference, out, exact)
				}
			}
		}
	}
}

// P2.2

func TestMulExamples(t *testing.T) {
	for _, c := range []struct{ a, b, hi, lo uint64 }{
		{0, 0, 0, 0},
		{0, all, 0, 0},
		{1, all, 0, all},
		{2, all, 1, all - 1},
		{1 << 63, 2, 1, 0},
		{1 << 63, 4, 2, 0},
		{1 << 63, 1 << 63, 1 << 62, 0},
		{1 << 32, 1 << 32, 1, 0},
		{1<<32 - 1, 1<<32 + 1, 0, all},
		{all, all, all - 1, 1},
		{6, 7, 0, 42},
	} {
		if hi, lo := word.Mul(c.a, c.b); hi != c.hi || lo != c.lo {
			t.Errorf("Mul(%x, %x) = %x, %x, want %x, %x", c.a, c.b, hi, lo, c.hi, c.lo)
		}
	}
}

func TestMulIsExact(t *testing.T) {
	for _, a := range operands() {
		for _, b := range operands() {
			exact := unsigned(a)
			exact.Mul(exact, unsigned(b))
			if hi, lo := word.Mul(a, b); number(hi, lo).Cmp(exact) != 0 {
				t.Errorf("Mul(%x, %x) = %x, %x, want %x in all", a, b, hi, lo, exact)
			}
		}
	}
}

func TestMulAddExamples(t *testing.T) {
	for _, c := range []struct{ a, b, c, d, hi, lo uint64 }{
		{0, 0, 0, 0, 0, 0},
		{0, 0, all, 0, 0, all},
		{0, 0, 0, all, 0, all},
		{0, 0, all, all, 1, all - 1},
		{3, 5, 7, 9, 0, 31},
		{1, all, 1, 0, 1, 0},
		{1, all, 0, 1, 1, 0},
		{1, all, all, all, 2, all - 2},
		{1 << 32, 1 << 32, all, 1, 2, 0},
		{all, all, 0, all, all, 0},
		{all, all, all, 0, all, 0},
		{all, all, all, all, all, all},
	} {
		if hi, lo := word.MulAdd(c.a, c.b, c.c, c.d); hi != c.hi || lo != c.lo {
			t.Errorf("MulAdd(%x, %x, %x, %x) = %x, %x, want %x, %x", c.a, c.b, c.c, c.d, hi, lo, c.hi, c.lo)
		}
	}
}

func TestMulAddIsExact(t *testing.T) {
	addends := []uint64{0, 1, 2, 1 << 32, 1<<63 - 1, 1 << 63, all - 1, all}
	for _, a := range operands() {
		for _, b := range operands() {
			for i, c := range addends {
				d := addends[(3*i+int(a^b))&7]
				exact := unsigned(a)
				exact.Mul(exact, unsigned(b)).Add(exact, unsigned(c)).Add(exact, unsigned(d))
				if hi, lo := word.MulAdd(a, b, c, d); number(hi, lo).Cmp(exact) != 0 {
					t.Errorf("MulAdd(%x, %x, %x, %x) = %x, %x, want %x in all", a, b, c, d, hi, lo, exact)
				}
			}
		}
	}
}

// P2.3

func TestMulSignedExamples(t *testing.T) {
	for _, c := range []struct {
		a, b   int64
		hi, lo uint64
	}{
		{0, 0, 0, 0},
		{0, -1, 0, 0},
		{least, 0, 0, 0},
		{1, 1, 0, 1},
		{-1, 1, all, all},
		{1, -1, all, all},
		{-1, -1, 0, 1},
		{-3, 5, all, all - 14},
		{3, -5, all, all - 14},
		{1 << 62, 4, 1, 0},
		{least, 1, all, 1 << 63},
		{1, least, all, 1 << 63},
		{least, -1, 0, 1 << 63},
		{-1, least, 0, 1 << 63},
		{least, least, 1 << 62, 0},
		{greatest, greatest, 1<<62 - 1, 1},
		{least, greatest, 3 << 62, 1 << 63},
		{greatest, least, 3 << 62, 1 << 63},
	} {
		if hi, lo := word.MulSigned(c.a, c.b); hi != c.hi || lo != c.lo {
			t.Errorf("MulSigned(%d, %d) = %x, %x, want %x, %x", c.a, c.b, hi, lo, c.hi, c.lo)
		}
	}
}

func TestMulSignedIsExact(t *testing.T) {
	for _, x := range operands() {
		for _, y := range operands() {
			a, b := int64(x), int64(y)
			exact := big.NewInt(a)
			exact = modulo(exact.Mul(exact, big.NewInt(b)), 128)
			if hi, lo := word.MulSigned(a, b); number(hi, lo).Cmp(exact) != 0 {
				t.Errorf("MulSigned(%d, %d) = %x, %x, want %x in all", a, b, hi, lo, exact)
			}
		}
	}
}

// P2.4

func TestFill(t *testing.T) {
	for _, c := range []struct{ word, want uint64 }{
		{0, 0},
		{1, 0},
		{2, 0},
		{1 << 62, 0},
		{1<<63 - 1, 0},
		{1 << 63, all},
		{1<<63 + 1, all},
		{all - 1, all},
		{all, all},
	} {
		if got := word.Fill(c.word); got != c.want {
			t.Errorf("Fill(%x) = %x, want %x", c.word, got, c.want)
		}
	}
	for _, a := range operands() {
		if got, want := word.Fill(a), uint64(int64(a)>>63); got != want {
			t.Errorf("Fill(%x) = %x, want %x", a, got, want)
		}
	}
}

// P2.5

func TestSubInvertsAdd(t *testing.T) {
	for _, a := range operands() {
		for _, b := range operands() {
			for _, carry := range carries {
				sum, out := word.Add(a, b, carry)
				if first, borrow := word.Sub(sum, b, carry); first != a || borrow != out {
					t.Errorf("Add(%x, %x, %x) = %x, %x, but Sub returns %x, %x", a, b, carry, sum, out, first, borrow)
				}
			}
		}
	}
}

// TestOutIsNextIn adds and subtracts numbers of two words, whose carries and borrows are passed on.
func TestOutIsNextIn(t *testing.T) {
	l := operands()
	for i, lo := range l {
		for j, hi := range l {
			bHi, bLo := l[(i+5*j)%len(l)], l[(j+7*i)%len(l)]
			a, b := number(hi, lo), number(bHi, bLo)
			low, out := word.Add(lo, bLo, 0)
			high, _ := word.Add(hi, bHi, out)
			if want := modulo(new(big.Int).Add(a, b), 128); number(high, low).Cmp(want) != 0 {
				t.Errorf("%x + %x = %x, want %x", a, b, number(high, low), want)
			}
			low, out = word.Sub(lo, bLo, 0)
			high, _ = word.Sub(hi, bHi, out)
			if want := modulo(new(big.Int).Sub(a, b), 128); number(high, low).Cmp(want) != 0 {
				t.Errorf("%x - %x = %x, want %x", a, b, number(high, low), want)
			}
		}
	}
}
