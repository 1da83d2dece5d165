// Package word is layer 1: see shared/doc/01-word.md.
package word

import "ravelin/api"

// wordBits is how many bits a word has, wordBytes how many bytes.
const (
	wordBits  = 64
	wordBytes = 8
)

// Sext is the number of the lowest bits, the highest of them being the sign.
func Sext(v uint64, bits int) int64 {
	if bits < 1 {
		return 0
	}
	if bits >= wordBits {
		return int64(v)
	}
	// The way back is a shift of a signed number: it draws the sign along.
	return int64(v<<(wordBits-bits)) >> (wordBits - bits)
}

// Zext are the lowest bits.
func Zext(v uint64, bits int) uint64 {
	if bits < 1 {
		return 0
	}
	if bits >= wordBits {
		return v
	}
	return v & (1<<bits - 1)
}

// Bits are bits of a word.
func Bits(v uint64, lo int, n int) uint64 {
	if !inWord(lo) {
		return 0
	}
	return Zext(v>>lo, n)
}

// Put is a word with other bits there.
func Put(v uint64, lo int, n int, x uint64) uint64 {
	if !inWord(lo) {
		return v
	}
	// Bits above 63 fall out of the word by the shift; where n is below 1, no bit is chosen.
	chosen := Zext(^uint64(0), n) << lo
	return v&^chosen | x<<lo&chosen
}

// inWord: is there such a bit?
func inWord(bit int) bool { return bit >= 0 && bit < wordBits }

// Fits: has a signed number so many bits at most?
func Fits(v int64, bits int) bool { return Sext(uint64(v), bits) == v }

// Load reads a number, the lowest byte first.
func Load(b []byte, at int, n int) (uint64, api.Errno) {
	if !inBytes(b, at, n) {
		return 0, api.ErrArg
	}
	v := uint64(0)
	for i := range n {
		v |= uint64(b[at+i]) << (8 * i)
	}
	return v, api.OK
}

// Store writes one.
func Store(b []byte, at int, n int, v uint64) api.Errno {
	if !inBytes(b, at, n) {
		return api.ErrArg
	}
	for i := range n {
		b[at+i] = byte(v >> (8 * i))
	}
	return api.OK
}

// inBytes: are there n bytes from at on, and do they make a word at most?
func inBytes(b []byte, at int, n int) bool {
	// n is taken from the length, not added to at: a very large at would wrap round.
	return n >= 1 && n <= wordBytes && at >= 0 && at <= len(b)-n
}

// Halves are the high and the low half.
func Halves(v uint64) (uint32, uint32) { return uint32(v >> 32), uint32(v) }

// Whole is made of them.
func Whole(high uint32, low uint32) uint64 { return uint64(high)<<32 | uint64(low) }
