package word_test

import (
	"math"
	"testing"

	"ravelin/word"
)

// someWords are words of all shapes: the ends of the range, each single bit and its neighbours, and many that follow no shape.
func someWords() []uint64 {
	l := []uint64{0, 1, math.MaxUint64, math.MaxInt64, 1 << 63, 0xaaaaaaaaaaaaaaaa, 0x5555555555555555, 0x0123456789abcdef, 0xfedcba9876543210, 0xffffffff, 0xffffffff00000000}
	for i := range 64 {
		p := uint64(1) << i
		l = append(l, p, p-1, p+1, ^p, -p)
	}
	s := uint64(1)
	for range 60 {
		s = s*6364136223846793005 + 1442695040888963407
		l = append(l, s^s>>29)
	}
	return l
}

// someCounts are numbers of bits, or places of bits: all near the word, and those far off on both sides.
func someCounts() []int {
	l := []int{math.MinInt, math.MinInt + 1, math.MinInt32, -1 << 32, -256, -129, -128, -127, 127, 128, 129, 255, 256, 1 << 31, 1 << 32, 1<<32 + 5, math.MaxInt - 63, math.MaxInt - 1, math.MaxInt}
	for i := -70; i <= 70; i++ {
		l = append(l, i)
	}
	return l
}

// bitOf is the bit i of v, 0 where there is none.
func bitOf(v uint64, i int) uint64 {
	if i < 0 || i > 63 {
		return 0
	}
	return v >> uint(i) & 1
}

// lowest puts the n lowest bits of v together one by one.
func lowest(v uint64, n int) uint64 {
	x := uint64(0)
	for i := 0; i < 64 && i < n; i++ {
		x |= bitOf(v, i) << uint(i)
	}
	return x
}

func TestSextExamples(t *testing.T) {
	for _, c := range []struct {
		v    uint64
		bits int
		want int64
	}{
		{0xff, 8, -1},
		{5, 0, 0},
		{0x7f, 8, 127},
		{0x80, 8, -128},
		{0x180, 8, -128},
		{0x17f, 8, 127},
		{1, 1, -1},
		{2, 1, 0},
		{0x800, 12, -2048},
		{0x7ff, 12, 2047},
		{0x80000000, 32, math.MinInt32},
		{0x7fffffff, 32, math.MaxInt32},
		{0x80000000, 33, 0x80000000},
		{1 << 62, 63, math.MinInt64 / 2},
		{1<<62 - 1, 63, math.MaxInt64 / 2},
		{math.MaxUint64 >> 1, 63, -1},
		{1 << 63, 63, 0},
		{1 << 63, 64, math.MinInt64},
		{math.MaxUint64, 64, -1},
		{math.MaxInt64, 64, math.MaxInt64},
		{1 << 63, 65, math.MinInt64},
		{math.MaxUint64, math.MaxInt, -1},
		{math.MaxUint64, 0, 0},
		{math.MaxUint64, -1, 0},
		{math.MaxUint64, -64, 0},
		{math.MaxUint64, math.MinInt, 0},
	} {
		if got := word.Sext(c.v, c.bits); got != c.want {
			t.Errorf("Sext(%#x, %d) is %d, not %d", c.v, c.bits, got, c.want)
		}
	}
}

func TestSextOfAllWidths(t *testing.T) {
	for _, v := range someWords() {
		for _, bits := range someCounts() {
			want := int64(lowest(v, bits))
			if bits >= 1 && bits <= 63 && bitOf(v, bits-1) == 1 {
				want -= 1 << uint(bits)
			}
			if got := word.Sext(v, bits); got != want {
				t.Fatalf("Sext(%#x, %d) is %d, not %d", v, bits, got, want)
			}
		}
	}
}

func TestZextExamples(t *testing.T) {
	for _, c := range []struct {
		v    uint64
		bits int
		want uint64
	}{
		{0x1ff, 8, 0xff},
		{0x1ff, 9, 0x1ff},
		{math.MaxUint64, 1, 1},
		{math.MaxUint64, 32, 0xffffffff},
		{math.MaxUint64, 63, math.MaxInt64},
		{math.MaxUint64, 64, math.MaxUint64},
		{math.MaxUint64, 65, math.MaxUint64},
		{math.MaxUint64, math.MaxInt, math.MaxUint64},
		{math.MaxUint64, 0, 0},
		{math.MaxUint64, -1, 0},
		{math.MaxUint64, math.MinInt, 0},
	} {
		if got := word.Zext(c.v, c.bits); got != c.want {
			t.Errorf("Zext(%#x, %d) is %#x, not %#x", c.v, c.bits, got, c.want)
		}
	}
}

func TestZextOfAllWidths(t *testing.T) {
	for _, v := range someWords() {
		for _, bits := range someCounts() {
			if got, want := word.Zext(v, bits), lowest(v, bits); got != want {
				t.Fatalf("Zext(%#x, %d) is %#x, not %#x", v, bits, got, want)
			}
		}
	}
}

func TestBitsExamples(t *testing.T) {
	const all = math.MaxUint64
	for _, c := range []struct {
		v     uint64
		lo, n int
		want  uint64
	}{
		{0xabcd, 4, 8, 0xbc},
		{0xabcd, 0, 4, 0xd},
		{all, 0, 64, all},
		{all, 0, 65, all},
		{all, 1, 64, math.MaxInt64},
		{all, 60, 4, 15},
		{all, 60, 5, 15},
		{all, 63, 1, 1},
		{all, 63, math.MaxInt, 1},
		{1 << 62, 63, 2, 0},
		{all, 64, 1, 0},
		{all, 65, 1, 0},
		{all, math.MaxInt, math.MaxInt, 0},
		{all, -1, 8, 0},
		{all, -1, math.MaxInt, 0},
		{all, math.MinInt, 8, 0},
		{all, 0, 0, 0},
		{all, 0, -1, 0},
		{all, 5, math.MinInt, 0},
	} {
		if got := word.Bits(c.v, c.lo, c.n); got != c.want {
			t.Errorf("Bits(%#x, %d, %d) is %#x, not %#x", c.v, c.lo, c.n, got, c.want)
		}
	}
}

// bitsOneByOne is what Bits is to be.
func bitsOneByOne(v uint64, lo, n int) uint64 {
	if lo < 0 || lo > 63 {
		return 0
	}
	x := uint64(0)
	for i := 0; i < 64 && i < n; i++ {
		x |= bitOf(v, lo+i) << uint(i)
	}
	return x
}

func TestBitsEverywhere(t *testing.T) {
	for _, v := range []uint64{math.MaxUint64, 0x0123456789abcdef, 0xfedcba9876543210, 1 << 63, 1} {
		for _, lo := range someCounts() {
			for _, n := range someCounts() {
				if got, want := word.Bits(v, lo, n), bitsOneByOne(v, lo, n); got != want {
					t.Fatalf("Bits(%#x, %d, %d) is %#x, not %#x", v, lo, n, got, want)
				}
			}
		}
	}
}

func TestPutExamples(t *testing.T) {
	const all = math.MaxUint64
	for _, c := range []struct {
		v     uint64
		lo, n int
		x     uint64
		want  uint64
	}{
		{0, 4, 8, 0xfff, 0xff0},
		{all, 4, 8, 0, all - 0xff0},
		{0xabcd, 4, 8, 0x12, 0xa12d},
		{0xabcd, 0, 64, 0x1234, 0x1234},
		{0xabcd, 0, 65, 0x1234, 0x1234},
		{0, 60, 4, all, 0xf << 60},
		{0, 60, 8, all, 0xf << 60},
		{0, 63, 1, all, 1 << 63},
		{all, 63, math.MaxInt, 0, math.MaxInt64},
		{all, 63, 2, 2, math.MaxInt64},
		{5, 64, 1, all, 5},
		{5, 64, math.MaxInt, all, 5},
		{5, math.MaxInt, 1, all, 5},
		{5, -1, 8, all, 5},
		{5, -1, math.MaxInt, all, 5},
		{5, math.MinInt, 8, all, 5},
		{5, 0, 0, all, 5},
		{5, 0, -1, all, 5},
		{5, 7, math.MinInt, all, 5},
	} {
		if got := word.Put(c.v, c.lo, c.n, c.x); got != c.want {
			t.Errorf("Put(%#x, %d, %d, %#x) is %#x, not %#x", c.v, c.lo, c.n, c.x, got, c.want)
		}
	}
}

// putOneByOne is what Put is to be.
func putOneByOne(v uint64, lo, n int, x uint64) uint64 {
	if lo < 0 || lo > 63 {
		return v
	}
	for i := 0; i < 64-lo && i < n; i++ {
		v = v&^(1<<uint(lo+i)) | bitOf(x, i)<<uint(lo+i)
	}
	return v
}

func TestPutEverywhere(t *testing.T) {
	for _, c := range [][2]uint64{{0, math.MaxUint64}, {math.MaxUint64, 0}, {0x0123456789abcdef, 0xfedcba9876543210}, {0xaaaaaaaaaaaaaaaa, 0x6666666666666666}} {
		for _, lo := range someCounts() {
			for _, n := range someCounts() {
				if got, want := word.Put(c[0], lo, n, c[1]), putOneByOne(c[0], lo, n, c[1]); got != want {
					t.Fatalf("Put(%#x, %d, %d, %#x) is %#x, not %#x", c[0], lo, n, c[1], got, want)
				}
			}
		}
	}
}

// P1.1, its first half: at all places, those outside of the word too.
func TestPutOfBitsIsTheWord(t *testing.T) {
	for _, v := range []uint64{0, math.MaxUint64, 0x0123456789abcdef, 0xfedcba9876543210} {
		for _, lo := range someCounts() {
			for _, n := range someCounts() {
				if got := word.Put(v, lo, n, word.Bits(v, lo, n)); got != v {
					t.Fatalf("Put(%#x, %d, %d, its Bits there) is %#x", v, lo, n, got)
				}
			}
		}
	}
}

// P1.1, its second half: where all of the bits are within the word.
func TestBitsOfPutAreTheLowest(t *testing.T) {
	for _, c := range [][2]uint64{{0, math.MaxUint64}, {math.MaxUint64, 0}, {0x0123456789abcdef, 0xfedcba9876543210}} {
		for lo := range 64 {
			for n := 1; lo+n <= 64; n++ {
				if got, want := word.Bits(word.Put(c[0], lo, n, c[1]), lo, n), lowest(c[1], n); got != want {
					t.Fatalf("Bits of Put(%#x, %d, %d, %#x) there are %#x, not %#x", c[0], lo, n, c[1], got, want)
				}
			}
		}
	}
}

func TestFitsExamples(t *testing.T) {
	for _, c := range []struct {
		v    int64
		bits int
		want bool
	}{
		{-2048, 12, true},
		{-2049, 12, false},
		{2047, 12, true},
		{2048, 12, false},
		{0, 0, true},
		{1, 0, false},
		{-1, 0, false},
		{0, -1, true},
		{-1, -1, false},
		{0, math.MinInt, true},
		{1, math.MinInt, false},
		{math.MinInt64, math.MinInt, false},
		{0, 1, true},
		{-1, 1, true},
		{1, 1, false},
		{-2, 1, false},
		{math.MaxInt64, 63, false},
		{math.MinInt64, 63, false},
		{math.MaxInt64, 64, true},
		{math.MinInt64, 64, true},
		{math.MaxInt64, 65, true},
		{math.MinInt64, math.MaxInt, true},
	} {
		if got := word.Fits(c.v, c.bits); got != c.want {
			t.Errorf("Fits(%d, %d) is %t", c.v, c.bits, got)
		}
	}
}

// within says by its bounds whether a number has so many bits.
func within(v int64, bits int) bool {
	switch {
	case bits < 1:
		return v == 0
	case bits >= 64:
		return true
	}
	half := int64(1) << uint(bits-1)
	return v >= -half && v <= half-1
}

func TestFitsOfAllWidths(t *testing.T) {
	for _, w := range someWords() {
		for _, bits := range someCounts() {
			if v := int64(w); word.Fits(v, bits) != within(v, bits) {
				t.Fatalf("Fits(%d, %d) is %t", v, bits, !within(v, bits))
			}
		}
	}
}

// P1.2.
func TestFitsJustIfSextIsTheNumber(t *testing.T) {
	for _, w := range someWords() {
		for bits := 1; bits <= 64; bits++ {
			v := int64(w)
			if same := word.Sext(w, bits) == v; word.Fits(v, bits) != same || within(v, bits) != same {
				t.Fatalf("of %d by %d bits: Fits is %t, Sext is the number: %t", v, bits, word.Fits(v, bits), same)
			}
		}
	}
}

func TestHalvesAndWholeExamples(t *testing.T) {
	for _, c := range []struct {
		v         uint64
		high, low uint32
	}{
		{0, 0, 0},
		{0x100000002, 1, 2},
		{0x0123456789abcdef, 0x01234567, 0x89abcdef},
		{0xffffffff, 0, math.MaxUint32},
		{0xffffffff00000000, math.MaxUint32, 0},
		{0x80000000, 0, 0x80000000},
		{1 << 63, 0x80000000, 0},
		{math.MaxUint64, math.MaxUint32, math.MaxUint32},
	} {
		if high, low := word.Halves(c.v); high != c.high || low != c.low {
			t.Errorf("Halves(%#x) are %#x and %#x", c.v, high, low)
		}
		if v := word.Whole(c.high, c.low); v != c.v {
			t.Errorf("Whole(%#x, %#x) is %#x", c.high, c.low, v)
		}
	}
}

// P1.3, its second half.
func TestWholeOfHalvesIsTheNumber(t *testing.T) {
	for _, v := range someWords() {
		high, low := word.Halves(v)
		if got := word.Whole(high, low); got != v {
			t.Fatalf("Whole of Halves(%#x) is %#x", v, got)
		}
	}
}
