package check_test

import (
	"math"
	"slices"
	"testing"

	"ravelin/api"
	"ravelin/cbpf"
	"ravelin/check"
)

// random are numbers that follow no shape, the same ones at each run.
type random uint64

func (r *random) next() uint32 {
	*r = *r*6364136223846793005 + 1442695040888963407
	return uint32(*r>>32 ^ *r>>59)
}

// below is a number from 0 to n - 1.
func (r *random) below(n int) int { return int(r.next()>>1) % n }

// theOperations are the Codes of layer 3's table, by their numbers.
func theOperations() []uint16 {
	return []uint16{
		0x20, 0x80, 0x81, 0x00, 0x01, 0x60, 0x61, 0x02, 0x03,
		0x04, 0x14, 0x24, 0x34, 0x44, 0x54, 0x64, 0x74, 0xa4,
		0x0c, 0x1c, 0x2c, 0x3c, 0x4c, 0x5c, 0x6c, 0x7c, 0xac,
		0x84, 0x05, 0x15, 0x25, 0x35, 0x45, 0x1d, 0x2d, 0x3d, 0x4d,
		0x06, 0x16, 0x07, 0x87,
	}
}

// edges are words of all shapes.
func edges() []uint32 {
	l := []uint32{60, 61, 62, 63, 64, 65, 68, 255, 256, 4095, 4096, 0x7fff, 0x10000, 0x55555555, 0x7fffffff, 0x80000000, 0x80000004, 0x80000020, 0xffffffe0, 0xfffffff0, 0xfffffffc, 0xfffffffd, 0xfffffffe, 0xffffffff}
	for k := range uint32(40) {
		l = append(l, k)
	}
	return l
}

// oneByHand is what One is to say, written down from the chapter's words by their numbers.
func oneByHand(q []api.Insn, at int) api.Errno {
	if at < 0 || at >= len(q) {
		return 41
	}
	in := q[at]
	if !slices.Contains(theOperations(), in.Code) {
		return 42
	}
	var ways []int64
	switch in.Code {
	case 0x05:
		ways = []int64{int64(in.K)}
	case 0x15, 0x25, 0x35, 0x45, 0x1d, 0x2d, 0x3d, 0x4d:
		ways = []int64{int64(in.Jt), int64(in.Jf)}
	}
	for _, w := range ways {
		if int64(at)+w+1 >= int64(len(q)) {
			return 43
		}
	}
	switch {
	case in.Code == 0x20 && (in.K > 60 || in.K&3 != 0):
		return 44
	case in.Code == 0x34 && in.K == 0:
		return 45
	case (in.Code == 0x64 || in.Code == 0x74) && in.K > 31:
		return 46
	case (in.Code == 0x60 || in.Code == 0x61 || in.Code == 0x02 || in.Code == 0x03) && in.K > 15:
		return 47
	}
	return 0
}

// checkByHand is what Check is to say.
func checkByHand(q []api.Insn) (api.Errno, int) {
	if len(q) < 1 || len(q) > 4096 {
		return 41, 0
	}
	for at := range q {
		if e := oneByHand(q, at); e != 0 {
			return e, at
		}
	}
	last := len(q) - 1
	if q[last].Code != 0x06 && q[last].Code != 0x16 {
		return 48, last
	}
	return 0, 0
}

// hold holds One at each place, and Check, against the chapter.
func hold(t *testing.T, q []api.Insn) {
	t.Helper()
	for at := -1; at <= len(q); at++ {
		if got, want := check.One(q, at), oneByHand(q, at); got != want {
			t.Fatalf("One of %v at %d is %d, not %d", q, at, got, want)
		}
	}
	err, at := check.Check(q)
	if wantErr, wantAt := checkByHand(q); err != wantErr || at != wantAt {
		t.Fatalf("Check of %v is %d at %d, not %d at %d", q, err, at, wantErr, wantAt)
	}
}

// returns are n instructions that return.
func returns(n int) []api.Insn {
	return slices.Repeat([]api.Insn{{Code: 0x06, K: 1}}, n)
}

func TestCheckExamples(t *testing.T) {
	ret := api.Insn{Code: 0x06}
	for _, c := range []struct {
		q   []api.Insn
		err api.Errno
		at  int
	}{
		{nil, api.ErrCheckLen, 0},
		{[]api.Insn{}, api.ErrCheckLen, 0},
		{returns(4097), api.ErrCheckLen, 0},
		{returns(4096), api.OK, 0},
		{[]api.Insn{ret}, api.OK, 0},
		{[]api.Insn{{Code: 0x16}}, api.OK, 0},
		{[]api.Insn{ret, {Code: 0x00}}, api.ErrCheckEnd, 1},
		{[]api.Insn{{Code: 0x00}}, api.ErrCheckEnd, 0},
		{[]api.Insn{{Code: 0x05, K: 0xffffffff}, ret}, api.ErrCheckJump, 0},
		{[]api.Insn{ret, {Code: 0x05}}, api.ErrCheckJump, 1},
		{[]api.Insn{{Code: 0x20, K: 62}, ret}, api.ErrCheckLoad, 0},
		{[]api.Insn{{Code: 0x94}, ret}, api.ErrCheckCode, 0},
		{[]api.Insn{{Code: 0x34}, ret}, api.ErrCheckDiv, 0},
		{[]api.Insn{{Code: 0x64, K: 32}, ret}, api.ErrCheckShift, 0},
		{[]api.Insn{{Code: 0x74, K: 31}, ret}, api.OK, 0},
		{[]api.Insn{ret, {Code: 0x02, K: 16}, ret}, api.ErrCheckScratch, 1},
		{[]api.Insn{{Code: 0x20}, {Code: 0x15, Jf: 1, K: 5}, {Code: 0x06, K: 1}, {Code: 0x06, K: 2}}, api.OK, 0},
	} {
		if err, at := check.Check(c.q); err != c.err || at != c.at {
			t.Errorf("Check of %d, %v is %d at %d, not %d at %d", len(c.q), c.q[:min(4, len(c.q))], err, at, c.err, c.at)
		}
	}
}

// Each Code that there could be; what layer 3 takes for none is none here.
func TestSealsOfAllCodes(t *testing.T) {
	data := make([]byte, 64)
	all := 0
	for n := range 1 << 16 {
		code := uint16(n)
		got := check.Seals(code)
		if want := slices.Contains(theOperations(), code); got != want {
			t.Fatalf("Seals(%#x) is %v", code, got)
		}
		if _, _, err, _ := cbpf.Run([]api.Insn{{Code: code, K: 4}}, data); got != (err != api.ErrCbpfCode) {
			t.Fatalf("Seals(%#x) is %v, but a run ends with %d", code, got, err)
		}
		if got {
			all++
		}
		hold(t, []api.Insn{{Code: code, K: 4}, {Code: 0x06}})
		hold(t, []api.Insn{{Code: 0x06}, {Code: code, Jt: 9, Jf: 9, K: math.MaxUint32}})
	}
	if all != len(theOperations()) || all != 41 {
		t.Errorf("there are %d operations", all)
	}
}

// Each operation with words of all shapes as K, and with ways near and far, at each place of short programs.
func TestFieldsOfAllShapes(t *testing.T) {
	for _, code := range theOperations() {
		for _, k := range edges() {
			for _, ways := range [][2]uint8{{0, 0}, {1, 0}, {0, 1}, {2, 2}, {3, 2}, {2, 4}, {255, 0}, {0, 255}, {255, 255}} {
				for n := range 6 {
					for at := range n {
						q := returns(n)
						q[at] = api.Insn{Code: code, Jt: ways[0], Jf: ways[1], K: k}
						hold(t, q)
					}
				}
			}
		}
	}
}

// Fields that an operation does not ask for may be any.
func TestFieldsThatAreNotAskedFor(t *testing.T) {
	const far = math.MaxUint32
	for _, in := range []api.Insn{
		{Code: 0x80, Jt: 255, Jf: 255, K: 62}, {Code: 0x81, Jt: 255, Jf: 255, K: 62},
		{Code: 0x00, Jt: 255, Jf: 255, K: far}, {Code: 0x01, Jt: 255, Jf: 255, K: far},
		{Code: 0x20, Jt: 255, Jf: 255, K: 60}, {Code: 0x34, Jt: 255, Jf: 255, K: far},
		{Code: 0x60, Jt: 255, Jf: 255, K: 15}, {Code: 0x03, Jt: 255, Jf: 255, K: 15},
		{Code: 0x3c}, {Code: 0x6c, K: 32}, {Code: 0x7c, K: far}, {Code: 0x84, K: far}, {Code: 0x84},
		{Code: 0x05, Jt: 255, Jf: 255}, {Code: 0x15, K: far}, {Code: 0x4d, K: far},
		{Code: 0x06, Jt: 255, Jf: 255, K: far}, {Code: 0x16, Jt: 255, Jf: 255, K: far},
		{Code: 0x07, Jt: 255, Jf: 255, K: far}, {Code: 0x87, Jt: 255, Jf: 255, K: far},
	} {
		q := []api.Insn{in, {Code: 0x06}}
		if err, at := check.Check(q); err != api.OK || at != 0 || check.One(q, 0) != api.OK {
			t.Errorf("Check of %v is %d at %d", q, err, at)
		}
	}
}

// Places of which there is none, near and far: also where the program itself may not be.
func TestOneOfNoPlace(t *testing.T) {
	for _, n := range []int{0, 1, 2, 4096, 4097} {
		q := returns(n)
		for _, at := range []int{math.MinInt, math.MinInt + 1, math.MinInt32, -1 << 32, -4096, -2, -1, n, n + 1, n + 2, 1 << 31, 1 << 32, math.MaxInt - 1, math.MaxInt} {
			if err := check.One(q, at); err != api.ErrCheckLen {
				t.Errorf("One of %d instructions at %d is %d", n, at, err)
			}
		}
		for _, at := range []int{0, n / 2, n - 1} {
			if err := check.One(q, at); n > 0 && err != api.OK {
				t.Errorf("One of %d instructions at %d is %d", n, at, err)
			}
		}
	}
	if err := check.One(nil, 0); err != api.ErrCheckLen {
		t.Errorf("One of nothing is %d", err)
	}
}

// A Ja to the last instruction, to the one behind it, and to places that are within modulo 2^32 alone.
func TestJumpsFarAndNear(t *testing.T) {
	for _, n := range []int{1, 2, 3, 255, 256, 257, 258, 4096, 5000, 70000} {
		q := returns(n)
		for _, at := range []int{0, 1, n - 3, n - 2, n - 1} {
			if at < 0 || at >= n {
				continue
			}
			behind := n - 1 - at
			for _, k := range []int{0, 1, behind - 2, behind - 1, behind, behind + 1, math.MaxInt32, math.MaxInt32 + 1, math.MaxUint32 - at, math.MaxUint32 - at - 1, math.MaxUint32 - 1, math.MaxUint32} {
				q[at] = api.Insn{Code: 0x05, K: uint32(k)}
				if got, want := check.One(q, at), oneByHand(q, at); got != want {
					t.Errorf("One of a Ja over %d at %d of %d is %d, not %d", uint32(k), at, n, got, want)
				}
			}
			q[at] = returns(1)[0]
		}
	}
}

// Both ways of each other jump, up to the farthest that there is, with and without X.
func TestBranchesFarAndNear(t *testing.T) {
	for _, code := range []uint16{0x15, 0x25, 0x35, 0x45, 0x1d, 0x2d, 0x3d, 0x4d} {
		for _, n := range []int{1, 2, 3, 200, 255, 256, 257, 258, 300} {
			q := returns(n)
			for way := range 256 {
				for _, in := range []api.Insn{{Code: code, Jt: uint8(way)}, {Code: code, Jf: uint8(way)}} {
					q[0] = in
					want := api.OK
					if way+1 >= n {
						want = api.ErrCheckJump
					}
					if err, at := check.Check(q); err != want || at != 0 || check.One(q, 0) != want {
						t.Fatalf("Check of %v at 0 of %d is %d at %d, not %d", in, n, err, at, want)
					}
				}
			}
		}
	}
}

// wrongs are instructions that may not be ahead of a return, one for each error.
func wrongs() []api.Insn {
	return []api.Insn{{Code: 0x94, K: 62}, {Code: 0x05, K: 5000}, {Code: 0x20, K: 62}, {Code: 0x34}, {Code: 0x64, K: 32}, {Code: 0x61, K: 16}}
}

// The first instruction by its place is told, whatever else is wrong behind it; the end is told last.
func TestFirstWrongIsTold(t *testing.T) {
	for i, first := range wrongs() {
		want := api.ErrCheckCode + api.Errno(i)
		for _, second := range append(wrongs(), api.Insn{Code: 0x00}) {
			for at := range 4 {
				q := returns(5)
				q[at], q[4] = first, second
				if err, place := check.Check(q); err != want || place != at {
					t.Errorf("Check of %v is %d at %d", q, err, place)
				}
			}
			q := append([]api.Insn{first}, returns(4095)...)
			q[4095] = second
			if err, at := check.Check(q); err != want || at != 0 {
				t.Errorf("Check of 4096 with %v first is %d at %d", first, err, at)
			}
			if err, at := check.Check(append(q, second)); err != api.ErrCheckLen || at != 0 {
				t.Errorf("Check of 4097 with %v first is %d at %d", first, err, at)
			}
		}
	}
}

// The last instruction is a return; one that is wrong by itself is told as that.
func TestEndIsReturn(t *testing.T) {
	for _, n := range []int{1, 2, 4096} {
		for _, code := range theOperations() {
			q := returns(n)
			q[n-1] = api.Insn{Code: code, K: 4}
			want, place := api.ErrCheckEnd, n-1
			switch code & 7 {
			case 5:
				want = api.ErrCheckJump
			case 6:
				want, place = api.OK, 0
			}
			if err, at := check.Check(q); err != want || at != place {
				t.Errorf("Check of %d with %#x last is %d at %d", n, code, err, at)
			}
		}
	}
}

func TestCheckOfAllLengths(t *testing.T) {
	for _, n := range []int{0, 1, 2, 100, 4095, 4096, 4097, 4098, 8192, 1 << 16, 1<<16 + 1, 1 << 20} {
		want := api.OK
		if n == 0 || n > 4096 {
			want = api.ErrCheckLen
		}
		if err, at := check.Check(returns(n)); err != want || at != 0 {
			t.Errorf("Check of %d instructions is %d at %d", n, err, at)
		}
	}
}

// accepted is a program that may be, and follows no other shape.
func (r *random) accepted() []api.Insn {
	q := make([]api.Insn, 1+r.below(40))
	codes, words := theOperations(), edges()
	for at := range q {
		in, behind := &q[at], len(q)-1-at
		*in = api.Insn{Code: codes[r.below(len(codes))], Jt: uint8(r.next()), Jf: uint8(r.next()), K: words[r.below(len(words))]}
		if behind == 0 {
			in.Code = uint16(0x06 + 0x10*r.below(2))
			continue
		}
		switch in.Code {
		case 0x05:
			in.K = uint32(r.below(min(behind, 4)))
		case 0x15, 0x25, 0x35, 0x45, 0x1d, 0x2d, 0x3d, 0x4d:
			in.Jt, in.Jf = uint8(r.below(min(behind, 4))), uint8(r.below(min(behind, 4)))
		case 0x20:
			in.K = uint32(4 * r.below(16))
		case 0x34:
			in.K = max(in.K, 1)
		case 0x64, 0x74:
			in.K %= 32
		case 0x60, 0x61, 0x02, 0x03:
			in.K %= 16
		case 0x06, 0x16:
			if r.below(3) > 0 {
				in.Code = 0x2c
			}
		}
	}
	return q
}

// endsWell runs a program that is accepted over data.
func endsWell(t *testing.T, q []api.Insn, data []byte) {
	t.Helper()
	if answer, steps, err, at := cbpf.Run(q, data); err != api.OK || at != 0 || steps < 1 || steps > len(q) {
		t.Fatalf("of %v over % x: %d, %d steps, %d at %d", q, data, answer, steps, err, at)
	}
}

// P4.1 and P4.2 of programs that may be.
func TestAcceptedProgramsEndWell(t *testing.T) {
	r := random(4)
	for range 4000 {
		q := r.accepted()
		for from := range q {
			if err, at := check.Check(q[from:]); err != api.OK || at != 0 {
				t.Fatalf("what is left of %v from %d on: %d at %d", q, from, err, at)
			}
		}
		for i := range 8 {
			data := make([]byte, 64)
			for at := range data {
				data[at] = byte(r.next()) * byte(i)
			}
			endsWell(t, q, data)
			endsWell(t, q[r.below(len(q)):], data)
		}
	}
}

// P4.1 and P4.2 of programs with a field that follows no shape: what is accepted of them ends well, what is not is told as the chapter says.
func TestProgramsOfAllShapes(t *testing.T) {
	r := random(5)
	seen := map[api.Errno]int{}
	data := make([]byte, 64)
	for range 60000 {
		q := r.accepted()
		in := &q[r.below(len(q))]
		switch r.below(6) {
		case 0:
			in.Code = uint16(r.below(256))
		case 1:
			in.Code = theOperations()[r.below(41)]
		case 2:
			in.K = edges()[r.below(len(edges()))]
		case 3:
			in.Jt, in.Jf = uint8(r.below(8)), uint8(r.below(8))
		case 4:
			*in = wrongs()[r.below(len(wrongs()))]
		}
		hold(t, q)
		err, _ := check.Check(q)
		seen[err]++
		if err != api.OK {
			continue
		}
		endsWell(t, q, data)
		for from := range q {
			if err, at := check.Check(q[from:]); err != api.OK || at != 0 {
				t.Fatalf("what is left of %v from %d on: %d at %d", q, from, err, at)
			}
		}
	}
	for err := api.ErrCheckCode; err <= api.ErrCheckEnd; err++ {
		if seen[err] < 50 {
			t.Errorf("only %d programs are refused with %d", seen[err], err)
		}
	}
	if seen[api.OK] < 5000 {
		t.Errorf("only %d programs are accepted", seen[api.OK])
	}
}

// P4.1 and P4.2 of programs as long as may be: one that does each instruction, and one of jumps that go far.
func TestLongProgramsEndWell(t *testing.T) {
	straight, far := returns(4096), returns(4096)
	for at := range 4095 {
		straight[at] = api.Insn{Code: 0x04, K: uint32(at)}
	}
	for at := range 4096 - 256 {
		far[at] = api.Insn{Code: 0x15, Jt: 255, Jf: uint8(at)}
	}
	far[7] = api.Insn{Code: 0x05, K: 4087}
	for _, q := range [][]api.Insn{straight, far} {
		for from := 0; from < len(q); from += 13 {
			if err, at := check.Check(q[from:]); err != api.OK || at != 0 {
				t.Fatalf("what is left from %d on: %d at %d", from, err, at)
			}
		}
		endsWell(t, q, make([]byte, 64))
		endsWell(t, q[7:], make([]byte, 64))
	}
}

// What is handed in stays as it is, what lies in its spare room does not count, and each call is the same again.
func TestCheckChangesAndKeepsNothing(t *testing.T) {
	all := append(wrongs(), returns(3)...)
	all[1].K = 1
	old := slices.Clone(all)
	for range 3 {
		for n := range len(all) + 1 {
			q := all[:n]
			hold(t, q)
			hold(t, slices.Clip(slices.Clone(q)))
			hold(t, all[n:])
		}
		if !slices.Equal(all, old) {
			t.Fatalf("a program is changed, or its spare room: %v", all)
		}
	}
	// The jump's goal stands in the spare room alone.
	q := []api.Insn{{Code: 0x06}, {Code: 0x05}, {Code: 0x06}}
	if err, at := check.Check(q[:2]); err != api.ErrCheckJump || at != 1 {
		t.Errorf("a jump into the spare room is %d at %d", err, at)
	}
}

func BenchmarkCheck(b *testing.B) {
	q := returns(4096)
	for b.Loop() {
		check.Check(q)
	}
}
