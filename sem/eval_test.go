package sem_test

import (
	"reflect"
	"slices"
	"testing"

	"ravelin/api"
	"ravelin/sem"
)

const example = head + "on read, write, 231 do allow; on openat when arg2 & 0x3 == 0 and not (arg1 > 5 or ip < 4096) do log;"

func TestEvalExamples(t *testing.T) {
	base := api.Data{Arch: 0xc000003e, Nr: 257, IP: 5000, Args: [6]uint64{0, 3, 4}}
	p := read(t, example)
	for i, c := range []struct {
		turn func(d *api.Data)
		want uint32
	}{
		{func(d *api.Data) {}, 0x7ffc0000},
		{func(d *api.Data) { d.Nr = 0 }, 0x7fff0000},
		{func(d *api.Data) { d.Nr = 1 }, 0x7fff0000},
		{func(d *api.Data) { d.Nr = 231 }, 0x7fff0000},
		{func(d *api.Data) { d.Nr = 2 }, 0x00050001},
		{func(d *api.Data) { d.Nr = 0xffffffff }, 0x00050001},
		{func(d *api.Data) { d.Args[1] = 6 }, 0x00050001},
		{func(d *api.Data) { d.Args[1] = 5 }, 0x7ffc0000},
		{func(d *api.Data) { d.Args[1] = 1 << 40 }, 0x00050001},
		{func(d *api.Data) { d.Args[2] = 1 }, 0x00050001},
		{func(d *api.Data) { d.Args[2] = 1 << 40 }, 0x7ffc0000},
		{func(d *api.Data) { d.IP = 4095 }, 0x00050001},
		{func(d *api.Data) { d.IP = 4096 }, 0x7ffc0000},
		{func(d *api.Data) { d.Arch = 0xc00000f3 }, 0x80000000},
		{func(d *api.Data) { d.Arch, d.Nr = 0xc00000b7, 0 }, 0x80000000},
		{func(d *api.Data) { d.Arch, d.Nr = 0, 0 }, 0x80000000},
	} {
		d := base
		c.turn(&d)
		if w := sem.Eval(p, d); w != c.want {
			t.Errorf("%d: Eval is %#x, not %#x", i, w, c.want)
		}
		if w := evalByHand(p, d); w != c.want {
			t.Errorf("%d: by hand Eval is %#x, not %#x", i, w, c.want)
		}
	}
}

// The first rule that has the number and whose When holds says what is done, not a later one, nor one that has the number alone.
func TestEvalOfSeveralRules(t *testing.T) {
	text := "arch riscv64; foreign trap 9; default notify; on read, 7 when arg0 == 1 do errno 1; on 8, 63 when arg1 == 1 do errno 2; on 7, 63 do errno 3; on 63, 9 do errno 4; on 63 when false do errno 5;"
	p := read(t, text)
	for _, c := range []struct {
		nr         uint32
		arg0, arg1 uint64
		want       uint32
	}{
		{63, 0, 0, 0x00050003}, {63, 1, 0, 0x00050001}, {63, 0, 1, 0x00050002}, {63, 1, 1, 0x00050001},
		{7, 0, 0, 0x00050003}, {7, 1, 0, 0x00050001}, {7, 0, 1, 0x00050003},
		{8, 0, 0, 0x7fc00000}, {8, 1, 0, 0x7fc00000}, {8, 0, 1, 0x00050002},
		{9, 0, 0, 0x00050004}, {9, 1, 1, 0x00050004}, {0, 1, 1, 0x7fc00000}, {10, 1, 1, 0x7fc00000},
	} {
		d := api.Data{Nr: c.nr, Arch: 0xc00000f3, Args: [6]uint64{c.arg0, c.arg1}}
		if w := sem.Eval(p, d); w != c.want {
			t.Errorf("Eval of %d with %d, %d is %#x, not %#x", c.nr, c.arg0, c.arg1, w, c.want)
		}
		d.Arch = 0xc00000b7
		if w := sem.Eval(p, d); w != 0x00030009 {
			t.Errorf("Eval of another architecture is %#x", w)
		}
	}
}

// What a policy is not well formed by may stand where it would say nothing.
func TestEvalOfWhatIsNotWellFormed(t *testing.T) {
	d := api.Data{Arch: 0xc000003e}
	for _, rules := range []string{"on 0 do allow; on bogus do log;", "on 0 do allow; on 1, 1 do log;", "on 0 do allow; on 1 when arg0 & 1 == 2 do log;", "on 0 do allow; on 1 do errno 4096;", "on 0, 0 do allow;"} {
		p := read(t, head+rules)
		for _, arch := range []uint32{0xc000003e, 0xc00000f3} {
			d.Arch = arch
			if w := sem.Eval(p, d); w != 0 {
				t.Errorf("Eval of %q is %#x", rules, w)
			}
		}
	}
	p := read(t, example)
	p.Arch = "arm"
	if w := sem.Eval(p, d); w != 0 {
		t.Errorf("Eval of no architecture is %#x", w)
	}
	if w := sem.Eval(api.Policy{}, api.Data{}); w != 0 {
		t.Errorf("Eval of nothing is %#x", w)
	}
}

// Policies that follow no shape: what they say, of data near what they ask for.
func TestEvalOfAllShapes(t *testing.T) {
	r := random(23)
	seen := map[string]int{}
	for range 4000 {
		p := r.policy(r.below(6), r.below(4))
		was := copiedPolicy(p)
		foreign, _ := wordByHand(p.Foreign)
		other, _ := wordByHand(p.Default)
		for range 8 {
			d := r.data(p)
			want := evalByHand(p, d)
			if w := sem.Eval(p, d); w != want {
				t.Fatalf("Eval of %v of %v is %#x, not %#x", p, d, w, want)
			}
			switch want {
			case foreign:
				seen["foreign"]++
			case other:
				seen["default"]++
			default:
				seen["rule"]++
			}
		}
		if !reflect.DeepEqual(p, was) {
			t.Fatalf("%v was %v", p, was)
		}
	}
	if seen["foreign"] < 2000 || seen["default"] < 2000 || seen["rule"] < 2000 {
		t.Errorf("what was said: %v", seen)
	}
}

// P7.2: a rule behind one that has all its calls, and holds always, changes nothing; nor does what is not tested.
func TestEvalFirstCome(t *testing.T) {
	r := random(29)
	for range 4000 {
		p := r.policy(1+r.below(5), r.below(4))
		place := r.below(len(p.Rules))
		p.Rules[place].When = with(1)
		longer := copiedPolicy(p)
		behind := r.rule(p.Arch, 2)
		calls := p.Rules[place].Calls
		behind.Calls = slices.Clone(calls[r.below(len(calls)):])
		longer.Rules = slices.Insert(longer.Rules, place+1+r.below(len(p.Rules)-place), behind)
		kept := 0
		for _, x := range p.Rules {
			kept |= asked(x.When)
		}
		for range 8 {
			d := r.data(longer)
			w := sem.Eval(p, d)
			if more := sem.Eval(longer, d); more != w {
				t.Fatalf("Eval of %v of %v is %#x, with a rule behind at %d: %#x", p, d, w, place, more)
			}
			if other := sem.Eval(p, r.elsewhere(d, kept)); other != w {
				t.Fatalf("Eval of %v of %v is %#x, with other fields: %#x", p, d, w, other)
			}
		}
	}
}

// P7.4: by name or number, it says the same.
func TestEvalByNameOrNumber(t *testing.T) {
	r := random(31)
	for range 4000 {
		p := r.policy(1+r.below(5), r.below(4))
		bare := copiedPolicy(p)
		for _, x := range bare.Rules {
			for i, c := range x.Calls {
				if c.Name != "" {
					n, _ := sem.Number(p.Arch, c.Name)
					x.Calls[i] = api.Call{Nr: uint64(n)}
				}
			}
		}
		for range 8 {
			d := r.data(p)
			if w, other := sem.Eval(p, d), sem.Eval(bare, d); w != other {
				t.Fatalf("Eval of %v of %v is %#x, with numbers: %#x", p, d, w, other)
			}
		}
	}
}

// Every name says what its number says, on each architecture.
func TestEvalOfAllNames(t *testing.T) {
	for arch, word := range archsByHand() {
		names, numbers := namesByHand(arch)
		for _, name := range names {
			p := read(t, "arch "+arch+"; foreign kill_process; default kill_thread; on "+name+" do allow;")
			for nr := range uint32(400) {
				want := uint32(0)
				if nr == numbers[name] {
					want = 0x7fff0000
				}
				if w := sem.Eval(p, api.Data{Arch: word, Nr: nr}); w != want {
					t.Fatalf("Eval of %q on %q of %d is %#x", name, arch, nr, w)
				}
			}
		}
	}
}

// Nothing is kept: an answer hangs on what the call is given now.
func TestNothingIsKept(t *testing.T) {
	p := read(t, example)
	d := api.Data{Arch: 0xc000003e, Nr: 0}
	if w := sem.Eval(p, d); w != 0x7fff0000 {
		t.Errorf("Eval is %#x", w)
	}
	p.Rules[0].Calls[0].Name = "write"
	p.Rules[0].Calls[1].Name = "read"
	p.Rules[0].Do.Kind = api.Log
	if w := sem.Eval(p, d); w != 0x7ffc0000 {
		t.Errorf("Eval of the changed policy is %#x", w)
	}
	p.Rules[0].Calls[1].Name = "write"
	if err, at := sem.Check(p); err != api.ErrSemTwice || at != 0 || sem.Eval(p, d) != 0 {
		t.Errorf("Check of the policy changed again is %d, %d", err, at)
	}
	p.Rules[0].Calls[1].Name = "close"
	if w := sem.Eval(p, d); w != 0x00050001 {
		t.Errorf("Eval of the policy changed once more is %#x", w)
	}
}
