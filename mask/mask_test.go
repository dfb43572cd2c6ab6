package mask_test

import (
	"testing"

	"geofence/mask"
)

const all = 1<<64 - 1

// words returns the ends of the unsigned and of the signed range, their neighbours, each power of two, and ordinary words.
func words() []uint64 {
	l := []uint64{0, 1, 2, 3, 1<<63 - 2, 1<<63 - 1, 1 << 63, 1<<63 + 1, all - 2, all - 1, all}
	for i := range 64 {
		l = append(l, 1<<i)
	}
	x := uint64(12345)
	for range 40 {
		x = x*6364136223846793005 + 1442695040888963407
		l = append(l, x, x>>32, x|1, x&^1)
	}
	return l
}

func of(holds bool) uint64 {
	if holds {
		return all
	}
	return 0
}

// selected picks each bit on its own.
func selected(m, a, b uint64) uint64 {
	var r uint64
	for i := range 64 {
		from := b
		if m>>i&1 == 1 {
			from = a
		}
		r |= from >> i & 1 << i
	}
	return r
}

// P1.1

func TestOf(t *testing.T) {
	for _, a := range words() {
		if got, want := mask.Of(a), of(a%2 == 1); got != want {
			t.Errorf("Of(%x) = %x, want %x", a, got, want)
		}
	}
}

func TestBit(t *testing.T) {
	for _, m := range words() {
		if got, want := mask.Bit(m), m%2; got != want {
			t.Errorf("Bit(%x) = %x, want %x", m, got, want)
		}
	}
}

func TestOfAndBitExamples(t *testing.T) {
	for _, c := range []struct{ word, mask, bit uint64 }{
		{0, 0, 0},
		{1, all, 1},
		{2, 0, 0},
		{3, all, 1},
		{1 << 63, 0, 0},
		{1<<63 + 1, all, 1},
		{all - 1, 0, 0},
		{all, all, 1},
	} {
		if got := mask.Of(c.word); got != c.mask {
			t.Errorf("Of(%x) = %x, want %x", c.word, got, c.mask)
		}
		if got := mask.Bit(c.word); got != c.bit {
			t.Errorf("Bit(%x) = %x, want %x", c.word, got, c.bit)
		}
	}
}

// P1.2

func TestSelectExamples(t *testing.T) {
	for _, c := range []struct{ m, a, b, want uint64 }{
		{0, 1, 2, 2},
		{all, 1, 2, 1},
		{0, all, 0, 0},
		{all, 0, all, 0},
		{0xff, 0x1234, 0x5678, 0x5634},
		{1, all, 0, 1},
		{1, 0, all, all - 1},
		{1 << 63, 0, all, 1<<63 - 1},
		{0xf0f0f0f0f0f0f0f0, 0x1111111111111111, 0x2222222222222222, 0x1212121212121212},
	} {
		if got := mask.Select(c.m, c.a, c.b); got != c.want {
			t.Errorf("Select(%x, %x, %x) = %x, want %x", c.m, c.a, c.b, got, c.want)
		}
	}
}

func TestSwapExamples(t *testing.T) {
	for _, c := range []struct{ m, a, b, first, second uint64 }{
		{0, 1, 2, 1, 2},
		{all, 1, 2, 2, 1},
		{0, 0, all, 0, all},
		{all, 0, all, all, 0},
		{0xff, 0x1234, 0x5678, 0x1278, 0x5634},
		{1, all, 0, all - 1, 1},
		{1 << 63, 0, all, 1 << 63, 1<<63 - 1},
	} {
		if first, second := mask.Swap(c.m, c.a, c.b); first != c.first || second != c.second {
			t.Errorf("Swap(%x, %x, %x) = %x, %x, want %x, %x", c.m, c.a, c.b, first, second, c.first, c.second)
		}
	}
}

func TestSelectAndSwapBitByBit(t *testing.T) {
	l := words()
	for i, m := range l {
		for j, a := range l {
			b := l[(i+7*j)%len(l)]
			if got, want := mask.Select(m, a, b), selected(m, a, b); got != want {
				t.Errorf("Select(%x, %x, %x) = %x, want %x", m, a, b, got, want)
			}
			first, second := mask.Swap(m, a, b)
			if first != selected(m, b, a) || second != selected(m, a, b) {
				t.Errorf("Swap(%x, %x, %x) = %x, %x", m, a, b, first, second)
			}
		}
	}
}

// P1.3

func TestConditionsOfOneWord(t *testing.T) {
	for _, a := range words() {
		if got, want := mask.Zero(a), of(a == 0); got != want {
			t.Errorf("Zero(%x) = %x, want %x", a, got, want)
		}
		if got, want := mask.Negative(int64(a)), of(int64(a) < 0); got != want {
			t.Errorf("Negative(%d) = %x, want %x", int64(a), got, want)
		}
	}
}

func TestConditionsOfTwoWords(t *testing.T) {
	l := words()
	for _, a := range l {
		for _, b := range l {
			if got, want := mask.Equal(a, b), of(a == b); got != want {
				t.Errorf("Equal(%x, %x) = %x, want %x", a, b, got, want)
			}
			if got, want := mask.Less(a, b), of(a < b); got != want {
				t.Errorf("Less(%x, %x) = %x, want %x", a, b, got, want)
			}
			if got, want := mask.LessSigned(int64(a), int64(b)), of(int64(a) < int64(b)); got != want {
				t.Errorf("LessSigned(%d, %d) = %x, want %x", int64(a), int64(b), got, want)
			}
		}
	}
}

func TestConditionExamples(t *testing.T) {
	const least, greatest = -1 << 63, 1<<63 - 1
	for _, c := range []struct {
		call      string
		got, want uint64
	}{
		{"Less(1, 2)", mask.Less(1, 2), all},
		{"Less(2, 1)", mask.Less(2, 1), 0},
		{"Less(0, all)", mask.Less(0, all), all},
		{"Less(all, 0)", mask.Less(all, 0), 0},
		{"Less(all, all)", mask.Less(all, all), 0},
		{"LessSigned(-1, 0)", mask.LessSigned(-1, 0), all},
		{"LessSigned(0, -1)", mask.LessSigned(0, -1), 0},
		{"LessSigned(least, greatest)", mask.LessSigned(least, greatest), all},
		{"LessSigned(greatest, least)", mask.LessSigned(greatest, least), 0},
		{"LessSigned(least, least)", mask.LessSigned(least, least), 0},
		{"Equal(all, all)", mask.Equal(all, all), all},
		{"Equal(0, 1 << 63)", mask.Equal(0, 1<<63), 0},
		{"Zero(0)", mask.Zero(0), all},
		{"Zero(all)", mask.Zero(all), 0},
		{"Negative(least)", mask.Negative(least), all},
		{"Negative(-1)", mask.Negative(-1), all},
		{"Negative(0)", mask.Negative(0), 0},
		{"Negative(greatest)", mask.Negative(greatest), 0},
	} {
		if c.got != c.want {
			t.Errorf("%s = %x, want %x", c.call, c.got, c.want)
		}
	}
}

// P1.4

func TestSignExamples(t *testing.T) {
	for _, c := range []struct {
		negative, zero uint64
		want           int64
	}{
		{0, 0, 1},
		{0, all, 0},
		{all, 0, -1},
		{all, all, -1},
		{0, 1, 0},
		{1, 0, -1},
		{1, 1, -1},
		{2, 0, 1},
		{0, 2, 1},
		{2, 2, 1},
		{2, 3, 0},
		{3, 2, -1},
		{all - 1, all - 1, 1},
		{all - 1, all, 0},
		{1 << 63, 1 << 63, 1},
		{1<<63 + 1, 1 << 63, -1},
	} {
		if got := mask.Sign(c.negative, c.zero); got != c.want {
			t.Errorf("Sign(%x, %x) = %d, want %d", c.negative, c.zero, got, c.want)
		}
	}
}

func TestSignLooksAtLowestBitsOnly(t *testing.T) {
	wants := [2][2]int64{{1, 0}, {-1, -1}}
	l := words()
	for _, negative := range l {
		for _, zero := range l {
			if got, want := mask.Sign(negative, zero), wants[negative%2][zero%2]; got != want {
				t.Errorf("Sign(%x, %x) = %d, want %d", negative, zero, got, want)
			}
		}
	}
}
