package word_test

import (
	"bytes"
	"math"
	"testing"

	"ravelin/api"
	"ravelin/word"
)

// someBytes are n bytes, no two of them alike, none of them 0 (n is below 100).
func someBytes(n int) []byte {
	b := make([]byte, n)
	for i := range b {
		b[i] = byte(0x9f - i)
	}
	return b
}

// farPlaces are places that no list has, or that only sums which wrap round could take for one.
func farPlaces() []int {
	return []int{math.MinInt, math.MinInt + 1, math.MinInt + 8, math.MinInt32, -1 << 32, -9, -8, -7, -2, -1, 1 << 31, 1 << 32, math.MaxInt - 8, math.MaxInt - 7, math.MaxInt - 1, math.MaxInt}
}

// farCounts are numbers of bytes that no word has.
func farCounts() []int {
	return []int{math.MinInt, math.MinInt + 1, math.MinInt32, -1 << 32, -9, -8, -1, 0, 9, 10, 16, 64, 1 << 31, 1 << 32, 1<<32 + 4, math.MaxInt - 1, math.MaxInt}
}

// isThere says by going from byte to byte whether there are 1 to 8 bytes from at on.
func isThere(size, at, n int) bool {
	if n < 1 || n > 8 || at < 0 || at > size {
		return false
	}
	for range n {
		if at >= size {
			return false
		}
		at++
	}
	return true
}

func TestLoadExamples(t *testing.T) {
	b := []byte{0x01, 0x02, 0x03, 0x04, 0x05, 0x06, 0x07, 0x88, 0xff}
	for _, c := range []struct {
		b     []byte
		at, n int
		want  uint64
		err   api.Errno
	}{
		{b[:3], 1, 2, 0x0302, api.OK},
		{b[:3], 2, 2, 0, api.ErrArg},
		{b[:3], 2, 1, 3, api.OK},
		{b[:3], 3, 1, 0, api.ErrArg},
		{b[:3], 0, 3, 0x030201, api.OK},
		{b[:3], 0, 4, 0, api.ErrArg},
		{b, 0, 1, 1, api.OK},
		{b, 0, 8, 0x8807060504030201, api.OK},
		{b, 1, 8, 0xff88070605040302, api.OK},
		{b, 2, 8, 0, api.ErrArg},
		{b, 8, 1, 0xff, api.OK},
		{b, 9, 1, 0, api.ErrArg},
		{b, 0, 0, 0, api.ErrArg},
		{b, 0, 9, 0, api.ErrArg},
		{b, 9, 0, 0, api.ErrArg},
		{b, 0, -1, 0, api.ErrArg},
		{b, -1, 1, 0, api.ErrArg},
		{b, -1, 8, 0, api.ErrArg},
		{b, math.MaxInt, 1, 0, api.ErrArg},
		{b, math.MaxInt - 7, 8, 0, api.ErrArg},
		{b, math.MinInt, 8, 0, api.ErrArg},
		{b, 0, math.MaxInt, 0, api.ErrArg},
		{b, 0, math.MinInt, 0, api.ErrArg},
		{[]byte{}, 0, 1, 0, api.ErrArg},
		{[]byte{}, 0, 0, 0, api.ErrArg},
		{nil, 0, 1, 0, api.ErrArg},
		{nil, 0, 0, 0, api.ErrArg},
		{nil, -1, 1, 0, api.ErrArg},
	} {
		if v, err := word.Load(c.b, c.at, c.n); v != c.want || err != c.err {
			t.Errorf("Load(% x, %d, %d) is %#x, %d", c.b, c.at, c.n, v, err)
		}
	}
}

func TestLoadEverywhere(t *testing.T) {
	for size := range 20 {
		for _, at := range append(farPlaces(), upTo(size+10)...) {
			for _, n := range append(farCounts(), 1, 2, 3, 4, 5, 6, 7, 8) {
				checkLoad(t, size, at, n)
			}
		}
	}
}

// upTo are the numbers from 0 to n - 1.
func upTo(n int) []int {
	var l []int
	for i := range n {
		l = append(l, i)
	}
	return l
}

func checkLoad(t *testing.T, size, at, n int) {
	t.Helper()
	whole := someBytes(size + 20)
	v, err := word.Load(whole[:size], at, n)
	if !bytes.Equal(whole, someBytes(size+20)) {
		t.Fatalf("Load of %d bytes at %d, %d changes them, or their spare room", size, at, n)
	}
	if !isThere(size, at, n) {
		if v != 0 || err != api.ErrArg {
			t.Fatalf("Load of %d bytes at %d, %d is %#x, %d, not ErrArg", size, at, n, v, err)
		}
		return
	}
	want := uint64(0)
	for i := n - 1; i >= 0; i-- {
		want = want*256 + uint64(whole[at+i])
	}
	if v != want || err != api.OK {
		t.Fatalf("Load of %d bytes at %d, %d is %#x, %d, not %#x", size, at, n, v, err, want)
	}
}

func TestStoreExamples(t *testing.T) {
	const v = 0x8877665544332211
	for _, c := range []struct {
		size, at, n int
		want        string
		err         api.Errno
	}{
		{3, 0, 2, "\x11\x22\x9d", api.OK},
		{3, 1, 2, "\x9f\x11\x22", api.OK},
		{3, 2, 1, "\x9f\x9e\x11", api.OK},
		{3, 0, 3, "\x11\x22\x33", api.OK},
		{3, 2, 2, "\x9f\x9e\x9d", api.ErrArg},
		{3, 3, 1, "\x9f\x9e\x9d", api.ErrArg},
		{3, 0, 4, "\x9f\x9e\x9d", api.ErrArg},
		{3, 0, 0, "\x9f\x9e\x9d", api.ErrArg},
		{3, 3, 0, "\x9f\x9e\x9d", api.ErrArg},
		{3, 0, -1, "\x9f\x9e\x9d", api.ErrArg},
		{3, -1, 1, "\x9f\x9e\x9d", api.ErrArg},
		{3, -1, 2, "\x9f\x9e\x9d", api.ErrArg},
		{3, math.MaxInt, 1, "\x9f\x9e\x9d", api.ErrArg},
		{3, math.MaxInt - 7, 8, "\x9f\x9e\x9d", api.ErrArg},
		{3, math.MinInt, 8, "\x9f\x9e\x9d", api.ErrArg},
		{3, 0, math.MaxInt, "\x9f\x9e\x9d", api.ErrArg},
		{3, 0, math.MinInt, "\x9f\x9e\x9d", api.ErrArg},
		{8, 0, 8, "\x11\x22\x33\x44\x55\x66\x77\x88", api.OK},
		{8, 1, 7, "\x9f\x11\x22\x33\x44\x55\x66\x77", api.OK},
		{8, 1, 8, "\x9f\x9e\x9d\x9c\x9b\x9a\x99\x98", api.ErrArg},
		{9, 0, 9, "\x9f\x9e\x9d\x9c\x9b\x9a\x99\x98\x97", api.ErrArg},
		{0, 0, 1, "", api.ErrArg},
		{0, 0, 0, "", api.ErrArg},
	} {
		b := someBytes(c.size)
		if err := word.Store(b, c.at, c.n, v); string(b) != c.want || err != c.err {
			t.Errorf("Store of %d bytes at %d, %d leaves % x, %d", c.size, c.at, c.n, b, err)
		}
	}
}

func TestStoreIntoNothing(t *testing.T) {
	for _, at := range append(farPlaces(), 0, 1, 8) {
		for _, n := range append(farCounts(), 1, 2, 4, 8) {
			if err := word.Store(nil, at, n, math.MaxUint64); err != api.ErrArg {
				t.Errorf("Store into nil at %d, %d is %d", at, n, err)
			}
			if err := word.Store([]byte{}, at, n, math.MaxUint64); err != api.ErrArg {
				t.Errorf("Store into an empty list at %d, %d is %d", at, n, err)
			}
		}
	}
}

func TestStoreEverywhere(t *testing.T) {
	for size := range 20 {
		for _, at := range append(farPlaces(), upTo(size+10)...) {
			for _, n := range append(farCounts(), 1, 2, 3, 4, 5, 6, 7, 8) {
				for _, v := range []uint64{0, 0x8877665544332211, math.MaxUint64} {
					checkStore(t, size, at, n, v)
				}
			}
		}
	}
}

// checkStore looks at the whole memory around the list: nothing but the n bytes may change, the spare room neither.
func checkStore(t *testing.T, size, at, n int, v uint64) {
	t.Helper()
	const ahead = 10
	memory, want := someBytes(ahead+size+20), someBytes(ahead+size+20)
	wantErr := api.ErrArg
	if isThere(size, at, n) {
		wantErr = api.OK
		rest := v
		for i := range n {
			want[ahead+at+i] = byte(rest % 256)
			rest /= 256
		}
	}
	err := word.Store(memory[ahead:ahead+size], at, n, v)
	if err != wantErr || !bytes.Equal(memory, want) {
		t.Fatalf("Store of %#x into %d bytes at %d, %d is %d and leaves\n% x, not\n% x", v, size, at, n, err, memory, want)
	}
}

// P1.3, its first half.
func TestLoadOfStoreIsTheLowestBytes(t *testing.T) {
	for _, v := range someWords() {
		for n := 1; n <= 8; n++ {
			for at := 0; at <= 12-n; at++ {
				b := someBytes(12)
				stored := word.Store(b, at, n, v)
				got, loaded := word.Load(b, at, n)
				if stored != api.OK || loaded != api.OK || got != lowest(v, 8*n) {
					t.Fatalf("Load of Store of %#x at %d, %d is %#x; %d, %d", v, at, n, got, stored, loaded)
				}
			}
		}
	}
}

// Nothing is kept: what a call answers hangs on what it is given now, not on what it was given ahead of it.
func TestNothingIsKept(t *testing.T) {
	b := []byte{1, 2, 3, 4}
	word.Load(b, 0, 4)
	b[0] = 9
	if v, err := word.Load(b, 0, 4); v != 0x04030209 || err != api.OK {
		t.Errorf("Load of changed bytes is %#x, %d", v, err)
	}
	if _, err := word.Load(b, 1, 4); err != api.ErrArg {
		t.Errorf("Load behind the end is %d", err)
	}
	if v, err := word.Load(b, 0, 4); v != 0x04030209 || err != api.OK {
		t.Errorf("Load after an error is %#x, %d", v, err)
	}
	word.Store(b, 0, 4, 7)
	b[0] = 1
	if err := word.Store(b, 4, 1, 5); err != api.ErrArg || !bytes.Equal(b, []byte{1, 0, 0, 0}) {
		t.Errorf("Store after a Store is %d and leaves % x", err, b)
	}
}
