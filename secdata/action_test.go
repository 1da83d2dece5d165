package secdata_test

import (
	"math"
	"testing"

	"ravelin/api"
	"ravelin/secdata"
)

// allKinds are the kinds of actions, in the order of their numbers.
func allKinds() []api.ActionKind {
	return []api.ActionKind{api.KillProcess, api.KillThread, api.Trap, api.Fault, api.Notify, api.Trace, api.Log, api.Allow}
}

// noKinds are numbers that no kind has, some of which a narrower number would take for one.
func noKinds() []api.ActionKind {
	l := []api.ActionKind{math.MinInt, math.MinInt + 1, math.MinInt32, -1 << 32, -1<<32 + 4, 1 << 31, 1 << 32, 1<<32 + 1, 1<<32 + 3, 1 << 61, 1<<61 + 4, math.MaxInt - 1, math.MaxInt}
	for i := -300; i <= 300; i++ {
		if i < 1 || i > 8 {
			l = append(l, api.ActionKind(i))
		}
	}
	return append(l, 1<<16, 1<<16+1, 1<<16+6)
}

// someNumbers are Data of actions.
func someNumbers() []uint16 {
	return []uint16{0, 1, 2, 7, 13, 255, 256, 0x7fff, 0x8000, 0xfffe, 0xffff}
}

// spelled is the word of an action, by the chapter's table; there may be none.
func spelled(kind api.ActionKind, number uint16) (uint32, bool) {
	switch kind {
	case api.KillProcess:
		return 0x80000000, number == 0
	case api.KillThread:
		return 0, number == 0
	case api.Trap:
		return 0x00030000 + uint32(number), true
	case api.Fault:
		return 0x00050000 + uint32(number), true
	case api.Notify:
		return 0x7fc00000, number == 0
	case api.Trace:
		return 0x7ff00000 + uint32(number), true
	case api.Log:
		return 0x7ffc0000, number == 0
	case api.Allow:
		return 0x7fff0000, number == 0
	}
	return 0, false
}

// spelling is the action of a word, by the chapter's table read from the right to the left; there may be none.
func spelling(w uint32) (api.Action, bool) {
	number := uint16(w)
	switch w {
	case 0x80000000:
		return api.Action{Kind: api.KillProcess}, true
	case 0:
		return api.Action{Kind: api.KillThread}, true
	case 0x7fc00000:
		return api.Action{Kind: api.Notify}, true
	case 0x7ffc0000:
		return api.Action{Kind: api.Log}, true
	case 0x7fff0000:
		return api.Action{Kind: api.Allow}, true
	}
	switch {
	case w >= 0x00030000 && w <= 0x0003ffff:
		return api.Action{Kind: api.Trap, Data: number}, true
	case w >= 0x00050000 && w <= 0x0005ffff:
		return api.Action{Kind: api.Fault, Data: number}, true
	case w >= 0x7ff00000 && w <= 0x7ff0ffff:
		return api.Action{Kind: api.Trace, Data: number}, true
	}
	return api.Action{}, false
}

// checkAction holds Action of w against the table, and Code of it against w (P2.1).
func checkAction(t *testing.T, w uint32) {
	t.Helper()
	want, is := spelling(w)
	a, err := secdata.Action(w)
	if !is {
		if a != (api.Action{}) || err != api.ErrSecdataAction {
			t.Fatalf("Action(%#x) is %v, %d, not ErrSecdataAction", w, a, err)
		}
		return
	}
	if a != want || err != api.OK {
		t.Fatalf("Action(%#x) is %v, %d, not %v", w, a, err, want)
	}
	if again, err := secdata.Code(a); again != w || err != api.OK {
		t.Fatalf("Code of Action(%#x) is %#x, %d", w, again, err)
	}
}

func TestCodeExamples(t *testing.T) {
	for _, c := range []struct {
		a    api.Action
		want uint32
		err  api.Errno
	}{
		{api.Action{Kind: api.KillProcess}, 0x80000000, api.OK},
		{api.Action{Kind: api.KillThread}, 0, api.OK},
		{api.Action{Kind: api.Trap}, 0x00030000, api.OK},
		{api.Action{Kind: api.Trap, Data: 0xffff}, 0x0003ffff, api.OK},
		{api.Action{Kind: api.Fault}, 0x00050000, api.OK},
		{api.Action{Kind: api.Fault, Data: 13}, 0x0005000d, api.OK},
		{api.Action{Kind: api.Fault, Data: 0xffff}, 0x0005ffff, api.OK},
		{api.Action{Kind: api.Notify}, 0x7fc00000, api.OK},
		{api.Action{Kind: api.Trace}, 0x7ff00000, api.OK},
		{api.Action{Kind: api.Trace, Data: 0xffff}, 0x7ff0ffff, api.OK},
		{api.Action{Kind: api.Log}, 0x7ffc0000, api.OK},
		{api.Action{Kind: api.Allow}, 0x7fff0000, api.OK},
		{api.Action{Kind: api.KillProcess, Data: 0xffff}, 0, api.ErrSecdataAction},
		{api.Action{Kind: api.KillThread, Data: 1}, 0, api.ErrSecdataAction},
		{api.Action{Kind: api.Notify, Data: 0x8000}, 0, api.ErrSecdataAction},
		{api.Action{Kind: api.Log, Data: 0xffff}, 0, api.ErrSecdataAction},
		{api.Action{Kind: api.Allow, Data: 1}, 0, api.ErrSecdataAction},
		{api.Action{}, 0, api.ErrSecdataAction},
		{api.Action{Data: 1}, 0, api.ErrSecdataAction},
		{api.Action{Kind: 9}, 0, api.ErrSecdataAction},
		{api.Action{Kind: -1}, 0, api.ErrSecdataAction},
		{api.Action{Kind: math.MinInt, Data: 0xffff}, 0, api.ErrSecdataAction},
	} {
		if w, err := secdata.Code(c.a); w != c.want || err != c.err {
			t.Errorf("Code of kind %d, Data %d is %#x, %d", c.a.Kind, c.a.Data, w, err)
		}
	}
}

// All actions that there could be: each kind with each Data; and P2.1 of them.
func TestCodeOfAllKinds(t *testing.T) {
	for _, kind := range allKinds() {
		for number := range 1 << 16 {
			a := api.Action{Kind: kind, Data: uint16(number)}
			want, is := spelled(kind, a.Data)
			w, err := secdata.Code(a)
			if !is {
				if w != 0 || err != api.ErrSecdataAction {
					t.Fatalf("Code of kind %d, Data %d is %#x, %d, not ErrSecdataAction", kind, number, w, err)
				}
				continue
			}
			if w != want || err != api.OK {
				t.Fatalf("Code of kind %d, Data %d is %#x, %d, not %#x", kind, number, w, err, want)
			}
			if again, err := secdata.Action(w); again != a || err != api.OK {
				t.Fatalf("Action of Code of kind %d, Data %d is %v, %d", kind, number, again, err)
			}
		}
	}
}

func TestCodeOfNoKind(t *testing.T) {
	for _, kind := range noKinds() {
		for _, number := range someNumbers() {
			if w, err := secdata.Code(api.Action{Kind: kind, Data: number}); w != 0 || err != api.ErrSecdataAction {
				t.Fatalf("Code of kind %d, Data %d is %#x, %d", kind, number, w, err)
			}
		}
	}
}

func TestActionExamples(t *testing.T) {
	for _, c := range []struct {
		w    uint32
		want api.Action
		err  api.Errno
	}{
		{0, api.Action{Kind: api.KillThread}, api.OK},
		{1, api.Action{}, api.ErrSecdataAction},
		{0x0002ffff, api.Action{}, api.ErrSecdataAction},
		{0x00030000, api.Action{Kind: api.Trap}, api.OK},
		{0x0003ffff, api.Action{Kind: api.Trap, Data: 0xffff}, api.OK},
		{0x00040000, api.Action{}, api.ErrSecdataAction},
		{0x0004ffff, api.Action{}, api.ErrSecdataAction},
		{0x00050000, api.Action{Kind: api.Fault}, api.OK},
		{0x0005000d, api.Action{Kind: api.Fault, Data: 13}, api.OK},
		{0x0005ffff, api.Action{Kind: api.Fault, Data: 0xffff}, api.OK},
		{0x00060000, api.Action{}, api.ErrSecdataAction},
		{0x7fbfffff, api.Action{}, api.ErrSecdataAction},
		{0x7fc00000, api.Action{Kind: api.Notify}, api.OK},
		{0x7fc00001, api.Action{}, api.ErrSecdataAction},
		{0x7fefffff, api.Action{}, api.ErrSecdataAction},
		{0x7ff00000, api.Action{Kind: api.Trace}, api.OK},
		{0x7ff00007, api.Action{Kind: api.Trace, Data: 7}, api.OK},
		{0x7ff0ffff, api.Action{Kind: api.Trace, Data: 0xffff}, api.OK},
		{0x7ff10000, api.Action{}, api.ErrSecdataAction},
		{0x7ffbffff, api.Action{}, api.ErrSecdataAction},
		{0x7ffc0000, api.Action{Kind: api.Log}, api.OK},
		{0x7ffc0001, api.Action{}, api.ErrSecdataAction},
		{0x7ffeffff, api.Action{}, api.ErrSecdataAction},
		{0x7fff0000, api.Action{Kind: api.Allow}, api.OK},
		{0x7fff0001, api.Action{}, api.ErrSecdataAction},
		{0x7fffffff, api.Action{}, api.ErrSecdataAction},
		{0x80000000, api.Action{Kind: api.KillProcess}, api.OK},
		{0x80000001, api.Action{}, api.ErrSecdataAction},
		{0x80030000, api.Action{}, api.ErrSecdataAction},
		{0xffff0000, api.Action{}, api.ErrSecdataAction},
		{0xffffffff, api.Action{}, api.ErrSecdataAction},
	} {
		if a, err := secdata.Action(c.w); a != c.want || err != c.err {
			t.Errorf("Action(%#x) is %v, %d", c.w, a, err)
		}
	}
}

// Each high half of a word, with low halves of all shapes.
func TestActionOfAllHighHalves(t *testing.T) {
	for high := range uint32(1 << 16) {
		for _, number := range someNumbers() {
			checkAction(t, high<<16|uint32(number))
		}
	}
}

// Each low half of a word, with the high halves that the kinds have, and those next to them.
func TestActionOfAllLowHalves(t *testing.T) {
	for _, kind := range allKinds() {
		w, _ := spelled(kind, 0)
		for low := range uint32(1 << 16) {
			checkAction(t, w-0x10000+low)
			checkAction(t, w+low)
			checkAction(t, w+0x10000+low)
		}
	}
}

// The words of actions with one bit turned, or two: most of them have bits that no action has.
func TestActionOfTurnedBits(t *testing.T) {
	for _, kind := range allKinds() {
		for _, number := range someNumbers() {
			w, is := spelled(kind, number)
			if !is {
				continue
			}
			for i := range 32 {
				for j := range 32 {
					checkAction(t, w^(1<<i|1<<j))
				}
			}
		}
	}
}

// Nothing is kept: an answer hangs on what the call is given now, not on what it was given ahead of it.
func TestNothingIsKeptOfActions(t *testing.T) {
	for range 3 {
		secdata.Code(api.Action{Kind: api.Trap, Data: 0xffff})
		if w, err := secdata.Code(api.Action{Kind: api.Trap}); w != 0x00030000 || err != api.OK {
			t.Errorf("Code of Trap 0 behind Trap 65535 is %#x, %d", w, err)
		}
		secdata.Code(api.Action{Kind: 9})
		secdata.Action(0x7ff0ffff)
		if a, err := secdata.Action(0x7ff00000); a != (api.Action{Kind: api.Trace}) || err != api.OK {
			t.Errorf("Action of Trace 0 behind Trace 65535 is %v, %d", a, err)
		}
		secdata.Action(1)
		if a, err := secdata.Action(0x7fff0000); a != (api.Action{Kind: api.Allow}) || err != api.OK {
			t.Errorf("Action of Allow behind an error is %v, %d", a, err)
		}
	}
}
