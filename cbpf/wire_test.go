package cbpf_test

import (
	"bytes"
	"encoding/binary"
	"math"
	"slices"
	"testing"

	"ravelin/api"
	"ravelin/cbpf"
)

// random are numbers that follow no shape, the same ones at each run.
type random uint64

func (r *random) next() uint32 {
	*r = *r*6364136223846793005 + 1442695040888963407
	return uint32(*r>>32 ^ *r>>59)
}

// below is a number from 0 to n - 1.
func (r *random) below(n int) int { return int(r.next()>>1) % n }

// someInsns are instructions of all shapes: the ends of each field, each single bit of it, operations or not, and many that follow no shape.
func someInsns() []api.Insn {
	l := []api.Insn{
		{}, {Code: math.MaxUint16, Jt: math.MaxUint8, Jf: math.MaxUint8, K: math.MaxUint32},
		{Code: math.MaxUint16}, {Jt: math.MaxUint8}, {Jf: math.MaxUint8}, {K: math.MaxUint32},
		{Code: 0x0102, Jt: 3, Jf: 4, K: 0x05060708},
	}
	for i := range 32 {
		l = append(l, api.Insn{Code: 1 << (i % 16)}, api.Insn{Jt: 1 << (i % 8)}, api.Insn{Jf: 1 << (i % 8)}, api.Insn{K: 1 << i})
	}
	r := random(3)
	for range 200 {
		l = append(l, api.Insn{Code: uint16(r.next()), Jt: uint8(r.next()), Jf: uint8(r.next()), K: r.next()})
	}
	return l
}

// written puts the bytes of a program one behind the other, as the chapter's words say.
func written(q []api.Insn) []byte {
	var b []byte
	for _, in := range q {
		b = binary.LittleEndian.AppendUint16(b, in.Code)
		b = append(b, in.Jt, in.Jf)
		b = binary.LittleEndian.AppendUint32(b, in.K)
	}
	return b
}

func TestBytesExamples(t *testing.T) {
	for _, c := range []struct {
		q    []api.Insn
		want string
	}{
		{nil, ""},
		{[]api.Insn{}, ""},
		{[]api.Insn{{}}, "\x00\x00\x00\x00\x00\x00\x00\x00"},
		{[]api.Insn{{Code: 0x15, Jt: 1, Jf: 2, K: 0x01020304}}, "\x15\x00\x01\x02\x04\x03\x02\x01"},
		{[]api.Insn{{Code: 0xabcd, Jt: 0xfe, Jf: 0xff, K: 0x80000000}}, "\xcd\xab\xfe\xff\x00\x00\x00\x80"},
		{[]api.Insn{{Code: 0x20}, {Code: 0x06, K: 0x7fff0000}}, "\x20\x00\x00\x00\x00\x00\x00\x00\x06\x00\x00\x00\x00\x00\xff\x7f"},
	} {
		if got := cbpf.Bytes(c.q); string(got) != c.want {
			t.Errorf("Bytes(%v) are % x", c.q, got)
		}
		if got, err := cbpf.Read([]byte(c.want)); !slices.Equal(got, c.q) || err != api.OK {
			t.Errorf("Read(% x) is %v, %d", c.want, got, err)
		}
	}
}

// P3.1, its first half; and the bytes are those of the chapter's words.
func TestReadOfBytesIsTheProgram(t *testing.T) {
	all := someInsns()
	for from := range len(all) {
		for _, n := range []int{0, 1, 2, 3, 40} {
			q := all[from:min(from+n, len(all))]
			b := cbpf.Bytes(q)
			if !bytes.Equal(b, written(q)) {
				t.Fatalf("Bytes(%v) are % x", q, b)
			}
			if again, err := cbpf.Read(b); !slices.Equal(again, q) || err != api.OK {
				t.Fatalf("Read of Bytes(%v) is %v, %d", q, again, err)
			}
		}
	}
	if again, err := cbpf.Read(cbpf.Bytes(all)); !slices.Equal(again, all) || err != api.OK {
		t.Errorf("Read of Bytes of all is %v, %d", again, err)
	}
}

// P3.1, its second half, where the bytes are those of instructions; other bytes are refused.
func TestBytesOfReadAreTheBytes(t *testing.T) {
	r := random(7)
	all := make([]byte, 500)
	for i := range all {
		all[i] = byte(r.next())
	}
	for n := range len(all) {
		q, err := cbpf.Read(all[:n])
		if n%8 != 0 {
			if len(q) != 0 || err != api.ErrCbpfWire {
				t.Fatalf("Read of %d bytes is %v, %d", n, q, err)
			}
			continue
		}
		if len(q) != n/8 || err != api.OK || !bytes.Equal(cbpf.Bytes(q), all[:n]) {
			t.Fatalf("Bytes of Read of % x are % x, %d", all[:n], cbpf.Bytes(q), err)
		}
	}
	if q, err := cbpf.Read(nil); len(q) != 0 || err != api.OK {
		t.Errorf("Read(nil) is %v, %d", q, err)
	}
}

func TestProgramOfAllLengths(t *testing.T) {
	for _, n := range []int{4095, 4096, 4097, 70000} {
		q := make([]api.Insn, n)
		for i := range q {
			q[i] = api.Insn{Code: uint16(i), Jt: uint8(i >> 8), Jf: uint8(i >> 4), K: uint32(i * i)}
		}
		b := cbpf.Bytes(q)
		if again, err := cbpf.Read(b); !bytes.Equal(b, written(q)) || !slices.Equal(again, q) || err != api.OK {
			t.Errorf("of %d instructions: Bytes or Read is wrong, %d", n, err)
		}
	}
}

// What is handed in stays as it is, its spare room too, and what comes out is new memory.
func TestWireSharesNothing(t *testing.T) {
	all := someInsns()
	q := all[:3]
	b := cbpf.Bytes(q)
	if !slices.Equal(all, someInsns()) {
		t.Errorf("Bytes changes its argument, or its spare room")
	}
	again := cbpf.Bytes(q)
	clear(b[:cap(b)])
	if !bytes.Equal(again, written(q)) || !slices.Equal(all, someInsns()) {
		t.Errorf("two answers of Bytes share memory")
	}

	whole := written(all)
	one, _ := cbpf.Read(whole[:24])
	if !bytes.Equal(whole, written(all)) {
		t.Errorf("Read changes its argument, or its spare room")
	}
	two, _ := cbpf.Read(whole[:24])
	clear(one[:cap(one)])
	if !slices.Equal(two, q) || !bytes.Equal(whole, written(all)) {
		t.Errorf("two answers of Read share memory")
	}
	clear(whole)
	if !slices.Equal(two, q) {
		t.Errorf("Read's answer hangs on its argument later")
	}
}
