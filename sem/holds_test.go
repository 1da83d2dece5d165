package sem_test

import (
	"reflect"
	"testing"

	"ravelin/api"
	"ravelin/policy"
	"ravelin/sem"
)

// holdHolds holds Holds against the chapter, and says what it is.
func holdHolds(t *testing.T, e api.Expr, d api.Data) bool {
	t.Helper()
	want := exprByHand(e) == 0 && holdsByHand(e, d)
	if is := sem.Holds(e, d); is != want {
		t.Fatalf("Holds of %.300v of %v is %t", e, d, is)
	}
	return want
}

func TestHoldsExamples(t *testing.T) {
	d := api.Data{Nr: 1, Arch: 2, IP: 5000, Args: [6]uint64{0, 3, 4, 1 << 32, 1 << 63, whole}}
	for text, want := range map[string]bool{
		"true": true, "false": false, "not true": false, "not false": true, "not not true": true,
		"true and true": true, "true and false": false, "false and true": false, "false and false": false, "true and true and false": false, "true and true and true": true,
		"true or true": true, "true or false": true, "false or true": true, "false or false": false, "false or false or true": true, "false or false or false": false,
		"not (true and false)": true, "not (false or true)": false, "true or false and false": true, "(true or false) and false": false,
		"arg1 == 3": true, "arg1 == 2": false, "arg1 == 4": false, "arg1 != 3": false, "arg1 != 2": true, "arg1 != 4": true,
		"arg1 < 3": false, "arg1 < 4": true, "arg1 < 2": false, "arg1 <= 3": true, "arg1 <= 4": true, "arg1 <= 2": false,
		"arg1 > 3": false, "arg1 > 2": true, "arg1 > 4": false, "arg1 >= 3": true, "arg1 >= 2": true, "arg1 >= 4": false,
		"arg0 == 0": true, "arg2 == 4": true, "arg3 == 4294967296": true, "arg4 == 9223372036854775808": true, "arg5 == 18446744073709551615": true, "ip == 5000": true,
		"arg3 == 0": false, "arg3 < 4294967295": false, "arg4 > 9223372036854775807": true, "arg4 > 1": true, "arg5 > 1": true, "arg5 < 1": false, "arg0 < 18446744073709551615": true,
		"arg1 & 1 == 1": true, "arg1 & 4 == 0": true, "arg1 & 4 == 4": false, "arg1 & 2 < 2": false, "arg1 & 2 <= 2": true, "arg2 & 3 > 0": false, "arg5 & 8 > 7": false, "arg5 & 15 > 7": true, "arg5 & 8 >= 8": true, "arg5 & 8 != 8": false,
		"arg3 & 0xffffffff == 0": true, "arg3 & 0xffffffff00000000 == 4294967296": true, "ip & 8 == 8": true, "ip & 0xfff == 904": true,
		"arg1 & 2 == 2 or false": true, "arg2 & 0x3 == 0 and not (arg1 > 5 or ip < 4096)": true,
		"arg1 & 3 == 4": false, "not arg1 & 3 == 4": false, "not arg1 & 0 == 0": false, "true or arg1 & 0 == 0": false,
	} {
		e, err, _ := policy.ParseExpr(text)
		if err != api.OK {
			t.Fatalf("%q is no expression", text)
		}
		if is := sem.Holds(e, d); is != want {
			t.Errorf("Holds of %q is %t", text, is)
		}
		holdHolds(t, e, d)
	}
}

// Of what may not be, wherever that stands, and whatever the rest says: false.
func TestHoldsOfWhatMayNotBe(t *testing.T) {
	yes := with(1)
	for _, wrong := range []api.Expr{{}, {Op: 7}, {Op: -1}, with(1, yes), with(2, yes), with(3), with(3, yes, yes), with(4), with(4, yes), with(5), with(5, yes), test(0, 0, 1, 0), test(0, 1, 2, 2), test(0, 1, 0, 0), test(0, 1, 7, 0), test(7, 1, 1, 0), test(-1, 1, 1, 0), nest("n", 201, yes), nest("n", 202, yes), nest("a", 201, yes), nest("o", 202, yes)} {
		for _, e := range []api.Expr{wrong, with(3, wrong), with(3, with(3, wrong)), with(5, yes, wrong), with(5, wrong, yes), with(3, with(4, with(2), wrong)), with(3, with(4, wrong, with(2)))} {
			if sem.Holds(e, api.Data{}) {
				t.Errorf("%.300v holds, but may not be", e)
			}
		}
	}
	if e := nest("n", 200, yes); !sem.Holds(e, api.Data{}) || sem.Holds(nest("n", 199, yes), api.Data{}) {
		t.Error("what stands within as many others as may just be does not hold")
	}
}

// Each field, each relation, with masks, values and data at the edges; each with its other way (P7.3).
func TestHoldsOfAllTests(t *testing.T) {
	others := map[api.Rel]api.Rel{2: 1, 6: 3, 4: 5}
	n := 0
	for field := range 7 {
		for _, v := range edges() {
			// The other fields say something else.
			d := api.Data{IP: ^v, Args: [6]uint64{^v, ^v, ^v, ^v, ^v, ^v}}
			if field == 6 {
				d.IP = v
			} else {
				d.Args[field] = v
			}
			for _, mask := range edges() {
				for _, value := range append(edges(), v&mask) {
					if mask == 0 || value&mask != value {
						continue
					}
					var is [7]bool
					for rel := range api.Rel(6) {
						is[rel+1] = holdHolds(t, test(field, mask, rel+1, value), d)
						n++
					}
					for a, b := range others {
						if sem.Holds(test(field, mask, a, value), d) == sem.Holds(test(field, mask, b, value), d) {
							t.Fatalf("the relations %d and %d of field %d, mask %#x, value %#x say the same of %#x", a, b, field, mask, value, v)
						}
					}
				}
			}
		}
	}
	if n < 100000 {
		t.Errorf("there are only %d tests", n)
	}
}

// Expressions that follow no shape; and P7.3 of them.
func TestHoldsOfAllShapes(t *testing.T) {
	r := random(13)
	seen := map[bool]int{}
	for range 20000 {
		e := r.expr(r.below(6))
		d := r.data(api.Policy{})
		if r.below(4) > 0 {
			r.near(e, &d)
		}
		was := copied(e)
		is := holdHolds(t, e, d)
		seen[is]++
		if sem.Holds(with(3, e), d) == is {
			t.Fatalf("%v and what is not so say the same of %v", e, d)
		}
		if sem.Holds(with(4, e, e), d) != is || sem.Holds(with(5, e, e), d) != is || sem.Holds(with(4, e, with(3, e)), d) || !sem.Holds(with(5, with(3, e), e), d) {
			t.Fatalf("%v with itself says something else of %v", e, d)
		}
		holdHolds(t, r.spoiled(e), d)
		if !reflect.DeepEqual(e, was) {
			t.Fatalf("%v was %v", e, was)
		}
	}
	if seen[true] < 5000 || seen[false] < 5000 {
		t.Errorf("how often they hold: %v", seen)
	}
}

// asked are the fields that an expression tests, as bits.
func asked(e api.Expr) int {
	n := 0
	if e.Op == 6 {
		n = 1 << e.Field
	}
	for _, arg := range e.Args {
		n |= asked(arg)
	}
	return n
}

// elsewhere are data that are changed but for some fields.
func (r *random) elsewhere(d api.Data, kept int) api.Data {
	for i := range d.Args {
		if kept>>i&1 == 0 {
			d.Args[i] = r.number()
		}
	}
	if kept>>6&1 == 0 {
		d.IP = r.number()
	}
	return d
}

// P7.2: what is not tested changes nothing.
func TestHoldsHangsOnWhatIsTested(t *testing.T) {
	r := random(17)
	for range 20000 {
		e := r.expr(r.below(4))
		d := r.data(api.Policy{})
		r.near(e, &d)
		other := r.elsewhere(d, asked(e))
		other.Nr, other.Arch = uint32(r.number()), uint32(r.number())
		if sem.Holds(e, d) != sem.Holds(e, other) {
			t.Fatalf("%v of %v and of %v is not the same", e, d, other)
		}
	}
}
