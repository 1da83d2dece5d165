package secdata_test

import (
	"bytes"
	"encoding/binary"
	"math"
	"testing"

	"ravelin/api"
	"ravelin/secdata"
)

// fullData has other bytes at each of the 64 places, none of them 0, from 0x11 on.
func fullData() api.Data {
	return api.Data{
		Nr:   0x14131211,
		Arch: 0x18171615,
		IP:   0x201f1e1d1c1b1a19,
		Args: [6]uint64{
			0x2827262524232221, 0x302f2e2d2c2b2a29, 0x3837363534333231,
			0x403f3e3d3c3b3a39, 0x4847464544434241, 0x504f4e4d4c4b4a49,
		},
	}
}

// layOut puts the bytes of data one behind the other, as the chapter's words say.
func layOut(d api.Data) []byte {
	b := binary.LittleEndian.AppendUint32(nil, d.Nr)
	b = binary.LittleEndian.AppendUint32(b, d.Arch)
	b = binary.LittleEndian.AppendUint64(b, d.IP)
	for _, a := range d.Args {
		b = binary.LittleEndian.AppendUint64(b, a)
	}
	return b
}

// someData are data of all shapes: the ends, each single bit of each field and all bits but that, and many that follow no shape.
func someData() []api.Data {
	full := api.Data{Nr: math.MaxUint32, Arch: math.MaxUint32, IP: math.MaxUint64}
	for i := range full.Args {
		full.Args[i] = math.MaxUint64
	}
	l := []api.Data{{}, full, fullData(), {Nr: 1, Args: [6]uint64{0x100000002}}}
	for i := range 64 {
		bit := uint64(1) << i
		for field := range 9 {
			l = append(l, withField(api.Data{}, field, bit), withField(full, field, ^bit))
		}
	}
	s := uint64(1)
	next := func() uint64 {
		s = s*6364136223846793005 + 1442695040888963407
		return s ^ s>>29
	}
	for range 50 {
		var d api.Data
		for field := range 9 {
			d = withField(d, field, next())
		}
		l = append(l, d)
	}
	return l
}

// withField is d, with v in its field: 0 Nr, 1 Arch, 2 IP, 3 to 8 the arguments.
func withField(d api.Data, field int, v uint64) api.Data {
	switch field {
	case 0:
		d.Nr = uint32(v)
	case 1:
		d.Arch = uint32(v)
	case 2:
		d.IP = v
	default:
		d.Args[field-3] = v
	}
	return d
}

// countUp are n bytes from 0x11 on, in a list with spare room behind it that is counted on.
func countUp(n int) []byte {
	b := make([]byte, n+20)
	for i := range b {
		b[i] = byte(0x11 + i)
	}
	return b[:n]
}

// spareKept: are b and its spare room as countUp made them?
func spareKept(b []byte) bool { return bytes.Equal(b[:cap(b)], countUp(cap(b))) }

// farNumbers are places and numbers of arguments that are none, some of which a narrower number, or a sum that wraps round, would take for one.
func farNumbers() []int {
	return []int{
		math.MinInt, math.MinInt + 1, math.MinInt + 4, math.MinInt + 16, math.MinInt32, -1 << 32, -1<<32 + 4, -256, -255, -252,
		256, 257, 260, 1 << 16, 1<<16 + 4, 1 << 31, 1 << 32, 1<<32 + 4, 1<<32 + 5, 1 << 61, 1<<61 + 1, 1 << 62, math.MaxInt - 63, math.MaxInt - 15, math.MaxInt - 3, math.MaxInt - 1, math.MaxInt,
	}
}

// around are the numbers from -140 to 140, and the far ones.
func around() []int {
	l := farNumbers()
	for i := -140; i <= 140; i++ {
		l = append(l, i)
	}
	return l
}

func TestBytesExamples(t *testing.T) {
	want := make([]byte, 64)
	want[0], want[16], want[20] = 1, 2, 1
	if b := secdata.Bytes(api.Data{Nr: 1, Args: [6]uint64{0x100000002}}); !bytes.Equal(b, want) {
		t.Errorf("Bytes of Nr 1 and the argument 0x100000002 are % x", b)
	}
	if b := secdata.Bytes(api.Data{}); !bytes.Equal(b, make([]byte, 64)) {
		t.Errorf("Bytes of no data are % x", b)
	}
	if b := secdata.Bytes(fullData()); !bytes.Equal(b, countUp(64)) {
		t.Errorf("Bytes of data that use each byte are % x", b)
	}
}

func TestBytesOfAllShapes(t *testing.T) {
	for _, d := range someData() {
		if b := secdata.Bytes(d); !bytes.Equal(b, layOut(d)) {
			t.Fatalf("Bytes of %#x are\n% x, not\n% x", d, b, layOut(d))
		}
	}
}

func TestReadExamples(t *testing.T) {
	if d, err := secdata.Read(countUp(64)); d != fullData() || err != api.OK {
		t.Errorf("Read of 64 bytes that count up is %#x, %d", d, err)
	}
	if d, err := secdata.Read(make([]byte, 64)); d != (api.Data{}) || err != api.OK {
		t.Errorf("Read of 64 times 0 is %#x, %d", d, err)
	}
	for _, b := range [][]byte{nil, {}, countUp(63), countUp(65), countUp(65)[:63:64], countUp(64)[:0:64]} {
		if d, err := secdata.Read(b); d != (api.Data{}) || err != api.ErrSecdataLen {
			t.Errorf("Read of %d bytes is %#x, %d", len(b), d, err)
		}
	}
}

func TestReadOfAllLengths(t *testing.T) {
	for n := range 300 {
		b := countUp(n)
		d, err := secdata.Read(b)
		if !spareKept(b) {
			t.Fatalf("Read of %d bytes changes them, or their spare room", n)
		}
		if n == 64 {
			if d != fullData() || err != api.OK {
				t.Fatalf("Read of 64 bytes is %#x, %d", d, err)
			}
		} else if d != (api.Data{}) || err != api.ErrSecdataLen {
			t.Fatalf("Read of %d bytes is %#x, %d", n, d, err)
		}
	}
}

// P2.1, its first half, and from the bytes' side too.
func TestReadOfBytesIsTheData(t *testing.T) {
	for _, d := range someData() {
		if got, err := secdata.Read(secdata.Bytes(d)); got != d || err != api.OK {
			t.Fatalf("Read of Bytes of %#x is %#x, %d", d, got, err)
		}
	}
}

func TestBytesOfReadAreTheBytes(t *testing.T) {
	for _, d := range someData() {
		b := layOut(d)
		got, err := secdata.Read(b)
		if again := secdata.Bytes(got); err != api.OK || !bytes.Equal(again, b) {
			t.Fatalf("Bytes of Read of % x are % x, %d", b, again, err)
		}
	}
}

func TestBytesAreNewMemory(t *testing.T) {
	d := fullData()
	first, second := secdata.Bytes(d), secdata.Bytes(d)
	whole := first[:cap(first)]
	for i := range whole {
		whole[i] = 0xee
	}
	first = append(first, 0xee)
	if !bytes.Equal(second, countUp(64)) || !bytes.Equal(secdata.Bytes(d), countUp(64)) {
		t.Errorf("a change of one answer of Bytes (%d bytes) is seen in another", len(first))
	}
}

func TestWordExamples(t *testing.T) {
	b := countUp(64)
	for _, c := range []struct {
		b    []byte
		at   int
		want uint32
		err  api.Errno
	}{
		{b, 0, 0x14131211, api.OK},
		{b, 4, 0x18171615, api.OK},
		{b, 8, 0x1c1b1a19, api.OK},
		{b, 12, 0x201f1e1d, api.OK},
		{b, 16, 0x24232221, api.OK},
		{b, 20, 0x28272625, api.OK},
		{b, 60, 0x504f4e4d, api.OK},
		{b, -4, 0, api.ErrSecdataAt},
		{b, -1, 0, api.ErrSecdataAt},
		{b, 1, 0, api.ErrSecdataAt},
		{b, 2, 0, api.ErrSecdataAt},
		{b, 3, 0, api.ErrSecdataAt},
		{b, 58, 0, api.ErrSecdataAt},
		{b, 61, 0, api.ErrSecdataAt},
		{b, 62, 0, api.ErrSecdataAt},
		{b, 63, 0, api.ErrSecdataAt},
		{b, 64, 0, api.ErrSecdataAt},
		{b, math.MaxInt - 3, 0, api.ErrSecdataAt},
		{b, math.MinInt, 0, api.ErrSecdataAt},
		{nil, 0, 0, api.ErrSecdataLen},
		{nil, 1, 0, api.ErrSecdataLen},
		{[]byte{}, 60, 0, api.ErrSecdataLen},
		{countUp(63), 0, 0, api.ErrSecdataLen},
		{countUp(63), -4, 0, api.ErrSecdataLen},
		{countUp(65), 0, 0, api.ErrSecdataLen},
		{countUp(65), 61, 0, api.ErrSecdataLen},
		{countUp(68), 64, 0, api.ErrSecdataLen},
		{countUp(64)[:4:64], 0, 0, api.ErrSecdataLen},
	} {
		if w, err := secdata.Word(c.b, c.at); w != c.want || err != c.err {
			t.Errorf("Word of %d bytes at %d is %#x, %d", len(c.b), c.at, w, err)
		}
	}
}

func TestWordEverywhere(t *testing.T) {
	for _, n := range []int{0, 1, 4, 32, 60, 63, 64, 65, 67, 68, 128, 256} {
		for _, at := range around() {
			checkWord(t, n, at)
		}
	}
}

func checkWord(t *testing.T, n, at int) {
	t.Helper()
	b := countUp(n)
	w, err := secdata.Word(b, at)
	if !spareKept(b) {
		t.Fatalf("Word of %d bytes at %d changes them, or their spare room", n, at)
	}
	want, wantErr := uint32(0), api.ErrSecdataAt
	for place := 0; place <= 60; place += 4 {
		if place == at {
			want, wantErr = binary.LittleEndian.Uint32(countUp(64)[place:]), api.OK
		}
	}
	if n != 64 {
		want, wantErr = 0, api.ErrSecdataLen
	}
	if w != want || err != wantErr {
		t.Fatalf("Word of %d bytes at %d is %#x, %d, not %#x, %d", n, at, w, err, want, wantErr)
	}
}

func TestWordsAreTheDatas(t *testing.T) {
	for _, d := range someData() {
		want := []uint32{d.Nr, d.Arch, uint32(d.IP), uint32(d.IP >> 32)}
		for _, a := range d.Args {
			want = append(want, uint32(a), uint32(a>>32))
		}
		b := secdata.Bytes(d)
		for i, v := range want {
			if w, err := secdata.Word(b, 4*i); w != v || err != api.OK {
				t.Fatalf("Word of Bytes of %#x at %d is %#x, %d, not %#x", d, 4*i, w, err, v)
			}
		}
	}
}

func TestArgExamples(t *testing.T) {
	for _, c := range []struct {
		i    int
		high bool
		want int
		err  api.Errno
	}{
		{0, false, 16, api.OK}, {0, true, 20, api.OK},
		{1, false, 24, api.OK}, {1, true, 28, api.OK},
		{2, false, 32, api.OK}, {2, true, 36, api.OK},
		{3, false, 40, api.OK}, {3, true, 44, api.OK},
		{4, false, 48, api.OK}, {4, true, 52, api.OK},
		{5, false, 56, api.OK}, {5, true, 60, api.OK},
		{6, false, 0, api.ErrSecdataAt}, {6, true, 0, api.ErrSecdataAt},
		{-1, false, 0, api.ErrSecdataAt}, {-1, true, 0, api.ErrSecdataAt},
		{-2, false, 0, api.ErrSecdataAt}, {-2, true, 0, api.ErrSecdataAt},
	} {
		if at, err := secdata.Arg(c.i, c.high); at != c.want || err != c.err {
			t.Errorf("Arg(%d, %t) is %d, %d", c.i, c.high, at, err)
		}
	}
}

func TestArgElsewhere(t *testing.T) {
	for _, i := range around() {
		if i >= 0 && i <= 5 {
			continue
		}
		for _, high := range []bool{false, true} {
			if at, err := secdata.Arg(i, high); at != 0 || err != api.ErrSecdataAt {
				t.Errorf("Arg(%d, %t) is %d, %d", i, high, at, err)
			}
		}
	}
}

// P2.2.
func TestWordsAtArgsPlacesAreTheHalves(t *testing.T) {
	for _, d := range someData() {
		b := secdata.Bytes(d)
		for i, a := range d.Args {
			for _, high := range []bool{false, true} {
				want := uint32(a)
				if high {
					want = uint32(a >> 32)
				}
				at, none := secdata.Arg(i, high)
				w, err := secdata.Word(b, at)
				if none != api.OK || err != api.OK || w != want {
					t.Fatalf("Word at Arg(%d, %t) of %#x is %#x; %d, %d", i, high, d, w, none, err)
				}
			}
		}
	}
}

// Nothing is kept: an answer hangs on what the call is given now, not on what it was given ahead of it.
func TestNothingIsKeptOfData(t *testing.T) {
	b := countUp(64)
	d, _ := secdata.Read(b)
	b[0], b[63] = 0xaa, 0xbb
	if d != fullData() {
		t.Errorf("data that were read change with their bytes: %#x", d)
	}
	changed := fullData()
	changed.Nr, changed.Args[5] = 0x141312aa, 0xbb4f4e4d4c4b4a49
	if d, err := secdata.Read(b); d != changed || err != api.OK {
		t.Errorf("Read of changed bytes is %#x, %d", d, err)
	}
	if w, err := secdata.Word(b, 60); w != 0xbb4f4e4d || err != api.OK {
		t.Errorf("Word of changed bytes is %#x, %d", w, err)
	}
	secdata.Read(nil)
	secdata.Word(nil, 0)
	secdata.Arg(6, true)
	if w, err := secdata.Word(b, 0); w != 0x141312aa || err != api.OK {
		t.Errorf("Word after errors is %#x, %d", w, err)
	}
	if at, err := secdata.Arg(5, true); at != 60 || err != api.OK {
		t.Errorf("Arg after errors is %d, %d", at, err)
	}
	if !bytes.Equal(secdata.Bytes(api.Data{}), make([]byte, 64)) {
		t.Error("Bytes of no data tell of other data")
	}
}
