package lex_test

import (
	"math"
	"strconv"
	"strings"
	"testing"

	"ravelin/lex"
)

// holdForms holds Number and Word of a string against the chapter, and against what Next says of it.
func holdForms(t *testing.T, s string) {
	t.Helper()
	n, is := lex.Number(s)
	if want, wantIs := numberByHand(s); n != want || is != wantIs {
		t.Fatalf("Number(%q) is %d, %t, not %d, %t", short(s), n, is, want, wantIs)
	}
	isWord := lex.Word(s)
	if want := wordByHand(s); isWord != want {
		t.Fatalf("Word(%q) is %t", short(s), isWord)
	}
	x, next, err := lex.Next(s, 0)
	whole := err == 0 && next == len(s) && x.Text == s
	if is != (whole && x.Kind == 3) || is && x.Num != n || isWord != (whole && x.Kind == 2) {
		t.Fatalf("of %q: Number %d, %t, Word %t, but Next %v, %d, %d", short(s), n, is, isWord, x, next, err)
	}
}

func TestNumberExamples(t *testing.T) {
	for _, c := range []struct {
		s    string
		want uint64
		is   bool
	}{
		{"0", 0, true},
		{"1", 1, true},
		{"9", 9, true},
		{"10", 10, true},
		{"4294967296", 1 << 32, true},
		{"9223372036854775808", 1 << 63, true},
		{"18446744073709551609", math.MaxUint64 - 6, true},
		{"18446744073709551615", math.MaxUint64, true},
		{"18446744073709551616", 0, false},
		{"18446744073709551619", 0, false},
		{"18446744073709551620", 0, false},
		{"18446744073709551625", 0, false},
		{"20000000000000000000", 0, false},
		{"99999999999999999999", 0, false},
		{"100000000000000000000", 0, false},
		{"184467440737095516150", 0, false},
		{"36893488147419103232", 0, false},
		{"340282366920938463463374607431768211457", 0, false},
		{"0x0", 0, true},
		{"0x1f", 31, true},
		{"0x00ff", 255, true},
		{"0x0123456789abcdef", 0x0123456789abcdef, true},
		{"0xfedcba9876543210", 0xfedcba9876543210, true},
		{"0x0000000000000000", 0, true},
		{"0xffffffffffffffff", math.MaxUint64, true},
		{"0x00000000000000000", 0, false},
		{"0x00000000000000001", 0, false},
		{"0x10000000000000000", 0, false},
		{"0xfffffffffffffffff", 0, false},
		{"", 0, false},
		{"00", 0, false},
		{"01", 0, false},
		{"08", 0, false},
		{"0o7", 0, false},
		{"0b1", 0, false},
		{"0_1", 0, false},
		{"1_000", 0, false},
		{"_1", 0, false},
		{"0x", 0, false},
		{"0x_1", 0, false},
		{"0x1_0", 0, false},
		{"0x-1", 0, false},
		{"0x 1", 0, false},
		{"0x0x1", 0, false},
		{"x1", 0, false},
		{"0X1f", 0, false},
		{"0x1F", 0, false},
		{"0xA", 0, false},
		{"0xg", 0, false},
		{"0x/", 0, false},
		{"0x:", 0, false},
		{"0x`", 0, false},
		{"1f", 0, false},
		{"a", 0, false},
		{"ff", 0, false},
		{"12a", 0, false},
		{"1e3", 0, false},
		{"1.", 0, false},
		{"/", 0, false},
		{":", 0, false},
		{"+1", 0, false},
		{"-1", 0, false},
		{"-0", 0, false},
		{" 1", 0, false},
		{"1 ", 0, false},
		{"1\n", 0, false},
		{"1#", 0, false},
		{"1;", 0, false},
		{"1\x00", 0, false},
		{"\x001", 0, false},
		{"٣", 0, false},
		{"１", 0, false},
		{strings.Repeat("0", 1<<20), 0, false},
		{strings.Repeat("1", 1<<20), 0, false},
		{"0x" + strings.Repeat("0", 1<<20), 0, false},
	} {
		if n, is := lex.Number(c.s); n != c.want || is != c.is {
			t.Errorf("Number(%q) is %d, %t, not %d, %t", short(c.s), n, is, c.want, c.is)
		}
	}
}

func TestWordExamples(t *testing.T) {
	w32 := strings.Repeat("w", 32)
	for _, c := range []struct {
		s    string
		want bool
	}{
		{"a", true}, {"z", true}, {"A", true}, {"Z", true}, {"_", true}, {"__", true}, {"_0", true},
		{"a9", true}, {"arg0", true}, {"x86_64", true}, {"on", true}, {"kill_process", true},
		{"", false}, {"0", false}, {"9a", false}, {"0x1", false}, {"a-", false}, {"-a", false}, {"a b", false},
		{" a", false}, {"a ", false}, {"a\n", false}, {"a#", false}, {"a;", false}, {"a$b", false}, {"a.b", false},
		{"@", false}, {"[", false}, {"`", false}, {"{", false}, {"a/", false}, {"a:", false}, {"a\x00", false},
		{"é", false}, {"aé", false}, {"ａ", false}, {"a\x80", false}, {"\xffa", false},
		{w32, true}, {w32[:31] + "9", true}, {w32[:31], true}, {w32 + "w", false}, {w32 + "9", false}, {w32[:31] + "$", false}, {w32 + " ", false},
		{strings.Repeat("w", 288), false}, {strings.Repeat("w", 1<<20), false},
	} {
		if got := lex.Word(c.s); got != c.want {
			t.Errorf("Word(%q) is %t", short(c.s), got)
		}
	}
}

// Each byte at the beginning, in the midst and at the end.
func TestFormsOfAllBytes(t *testing.T) {
	for a := range 256 {
		for b := range 256 {
			s := string([]byte{byte(a), byte(b)})
			for _, c := range []string{s, s[:1], "0x" + s, "a" + s, "1" + s, s + "a", s + "1", "0x1" + s + "f", "a" + s + "9", "7" + s + "7"} {
				holdForms(t, c)
			}
		}
	}
}

func TestFormsOfAllLengths(t *testing.T) {
	for n := range 70 {
		for c := range 256 {
			s := strings.Repeat(string([]byte{byte(c)}), n)
			for _, first := range []string{"", "a", "_", "0", "1", "0x", "0x1"} {
				holdForms(t, first+s)
				holdForms(t, first+s+"0")
			}
		}
	}
}

// Numbers of all shapes, as they are written, with digits more and less, and with one byte changed.
func TestNumbersOfAllShapes(t *testing.T) {
	r := random(7)
	l := []uint64{0, math.MaxUint64}
	for i := range 64 {
		l = append(l, 1<<i-1, 1<<i, 1<<i+1, -(1 << i))
	}
	for p := uint64(1); p < 1e19; p *= 10 {
		l = append(l, p-1, p, p+1, 10*p-1)
	}
	for range 200 {
		l = append(l, r.next(), r.next()>>r.below(64))
	}
	for _, v := range l {
		for _, s := range []string{strconv.FormatUint(v, 10), "0x" + strconv.FormatUint(v, 16)} {
			if n, is := lex.Number(s); n != v || !is {
				t.Fatalf("Number(%q) is %d, %t", s, n, is)
			}
			for _, c := range []string{s + "0", s + "9", "0" + s, "1" + s, s[1:], s[:len(s)-1], strings.ToUpper(s), "0x0" + strings.TrimPrefix(s, "0x"), s + " "} {
				holdForms(t, c)
			}
			for at := range s {
				for _, c := range []string{"0", "1", "9", "a", "f", "F", "x", "_", "/", ":", "g"} {
					holdForms(t, s[:at]+c+s[at+1:])
				}
			}
		}
	}
	// The numbers around the greatest one, as digits alone tell them.
	for low := range 10000 {
		holdForms(t, "1844674407370955"+strconv.Itoa(10000 + low)[1:])
		holdForms(t, "18446744073709551"+strconv.Itoa(10000 + low)[2:])
		holdForms(t, "1844674407370955"+strconv.Itoa(10000+low))
	}
}
