package lex_test

import (
	"iter"
	"slices"
	"strings"
	"testing"

	"ravelin/api"
	"ravelin/lex"
)

// holdList holds List and All of a text against the chapter, and P5.2 and P5.3 of what is listed.
func holdList(t *testing.T, text string) api.Errno {
	t.Helper()
	want, wantErr, wantAt := listByHand(text)
	l, err, at := lex.List(text)
	if !slices.Equal(l, want) || err != wantErr || at != wantAt {
		t.Fatalf("List of %q is %v, %d, %d, not %v, %d, %d", short(text), l, err, at, want, wantErr, wantAt)
	}
	holdAll(t, text, wantErr)
	if err == api.OK {
		standThere(t, text, l)
		comeBack(t, l)
	}
	return err
}

// holdAll holds All against the chapter's Next, asked at the beginning and behind each token.
func holdAll(t *testing.T, text string, last api.Errno) {
	t.Helper()
	at, through := 0, false
	for x, err := range lex.All(text) {
		if through {
			t.Fatalf("All of %q goes on behind the last token with %v, %d", short(text), x, err)
		}
		want, next, wantErr := nextByHand(text, at)
		if x != want || err != wantErr {
			t.Fatalf("All of %q, at %d, is %v, %d, not %v, %d", short(text), at, x, err, want, wantErr)
		}
		at, through = next, err != api.OK || x.Kind == api.TokenEnd
		if through && err != last {
			t.Fatalf("All of %q ends with %d, not %d", short(text), err, last)
		}
	}
	if !through {
		t.Fatalf("All of %q has no end", short(text))
	}
}

// standThere is P5.2: each token's bytes stand at its place, and between them are blanks and remarks alone.
func standThere(t *testing.T, text string, l []api.Token) {
	t.Helper()
	behind := 0
	for i, x := range l {
		if x.At < behind || !strings.HasPrefix(text[x.At:], x.Text) || gapForm.FindString(text[behind:x.At]) != text[behind:x.At] {
			t.Fatalf("of %q: the token %v behind %d", short(text), x, behind)
		}
		if i < len(l)-1 && (x.Kind == api.TokenEnd || x.Text == "") {
			t.Fatalf("of %q: %v is not the last token", short(text), x)
		}
		behind = x.At + len(x.Text)
	}
	if x := l[len(l)-1]; x != (api.Token{Kind: api.TokenEnd, At: len(text)}) {
		t.Fatalf("of %q: the last token is %v", short(text), x)
	}
}

// comeBack is P5.3: the texts with one blank between them are cut into the same tokens, at other places.
func comeBack(t *testing.T, l []api.Token) {
	t.Helper()
	texts := make([]string, len(l))
	for i, x := range l {
		texts[i] = x.Text
	}
	joined := strings.Join(texts, " ")
	if len(joined) > api.MaxText {
		return
	}
	again, err, at := lex.List(joined)
	if err != api.OK || at != 0 || len(again) != len(l) {
		t.Fatalf("%q is cut into %v, %d, %d", short(joined), again, err, at)
	}
	for i, x := range again {
		if x.At = l[i].At; x != l[i] {
			t.Fatalf("of %q: %v, not %v", short(joined), x, l[i])
		}
	}
}

// The tokens of the examples.
func wordAt(at int, s string) api.Token { return api.Token{Kind: api.TokenWord, Text: s, At: at} }
func signAt(at int, s string) api.Token { return api.Token{Kind: api.TokenSign, Text: s, At: at} }
func endAt(at int) api.Token            { return api.Token{Kind: api.TokenEnd, At: at} }
func numberAt(at int, s string, n uint64) api.Token {
	return api.Token{Kind: api.TokenNumber, Text: s, Num: n, At: at}
}

func TestListExamples(t *testing.T) {
	for _, c := range []struct {
		text string
		want []api.Token
	}{
		{"arg0 & 0x1f>=2;# x", []api.Token{wordAt(0, "arg0"), signAt(5, "&"), numberAt(7, "0x1f", 31), signAt(11, ">="), numberAt(13, "2", 2), signAt(14, ";"), endAt(18)}},
		{"", []api.Token{endAt(0)}},
		{" \t\r\n", []api.Token{endAt(4)}},
		{"# == $ 00", []api.Token{endAt(9)}},
		{"#a\n#b\nc#d\ne", []api.Token{wordAt(6, "c"), wordAt(10, "e"), endAt(11)}},
		{"(a,b)", []api.Token{signAt(0, "("), wordAt(1, "a"), signAt(2, ","), wordAt(3, "b"), signAt(4, ")"), endAt(5)}},
		{"<<===>>=!=&", []api.Token{signAt(0, "<"), signAt(1, "<="), signAt(3, "=="), signAt(5, ">"), signAt(6, ">="), signAt(8, "!="), signAt(10, "&"), endAt(11)}},
		{"_ 0;0x0", []api.Token{wordAt(0, "_"), numberAt(2, "0", 0), signAt(3, ";"), numberAt(4, "0x0", 0), endAt(7)}},
	} {
		if l, err, at := lex.List(c.text); !slices.Equal(l, c.want) || err != api.OK || at != 0 {
			t.Errorf("List of %q is %v, %d, %d, not %v", c.text, l, err, at, c.want)
		}
	}
}

func TestListOfWrongTexts(t *testing.T) {
	for _, c := range []struct {
		text string
		err  api.Errno
		at   int
	}{
		{"a = b", api.ErrLexByte, 2},
		{"00", api.ErrLexNumber, 0},
		{"0x", api.ErrLexNumber, 0},
		{"0xG", api.ErrLexNumber, 0},
		{"12a", api.ErrLexNumber, 0},
		{"0x10000000000000000", api.ErrLexNumber, 0},
		{strings.Repeat("a", 33), api.ErrLexName, 0},
		{"a$", api.ErrLexByte, 1},
		{"a;  # $\n  00 $", api.ErrLexNumber, 10},
		{"a " + strings.Repeat("b", 33) + " 00", api.ErrLexName, 2},
		{"!", api.ErrLexByte, 0},
		{"a!", api.ErrLexByte, 1},
		{"<==", api.ErrLexByte, 2},
		{"a |b", api.ErrLexByte, 2},
		{"# \n\x80", api.ErrLexByte, 3},
		{strings.Repeat(" ", 65535) + "$", api.ErrLexByte, 65535},
		{"$" + strings.Repeat(" ", 65536), api.ErrLexLong, 0},
		{strings.Repeat(" ", 65536) + "$", api.ErrLexLong, 0},
		{strings.Repeat("a ", 40000), api.ErrLexLong, 0},
	} {
		if l, err, at := lex.List(c.text); len(l) != 0 || err != c.err || at != c.at {
			t.Errorf("List of %q is %d tokens, %d, %d, not %d, %d", short(c.text), len(l), err, at, c.err, c.at)
		}
		holdAll(t, c.text, c.err)
	}
}

// P5.1 to P5.3 of texts that follow no shape.
func TestListOfAllShapes(t *testing.T) {
	r := random(11)
	seen := map[api.Errno]int{}
	for range 20000 {
		seen[holdList(t, r.text(r.below(40), []int{0, 8, 30}[r.below(3)]))]++
		b := make([]byte, r.below(6))
		for i := range b {
			b[i] = byte(r.next() >> 40)
		}
		seen[holdList(t, string(b)+r.text(r.below(4), 0))]++
	}
	for _, err := range []api.Errno{api.OK, api.ErrLexByte, api.ErrLexName, api.ErrLexNumber} {
		if seen[err] < 300 {
			t.Errorf("only %d texts are told with %d", seen[err], err)
		}
	}
}

// Each two tokens, and each two pieces, with nothing between them, or some gap.
func TestListOfAllNeighbours(t *testing.T) {
	l := append(goods(), bads()...)
	for _, a := range l {
		for _, b := range l {
			for _, gap := range []string{"", " ", "\n", "#\n", "#", "\r", "\t#=\n"} {
				holdList(t, a+gap+b)
			}
		}
	}
}

func TestListOfLongTexts(t *testing.T) {
	for _, piece := range []string{" ", ";", "#", "\n", "#\n", "a ", "<=", "0;", "a<", "0x1f\t", strings.Repeat("w", 32) + ","} {
		whole := strings.Repeat(piece, 65536/len(piece))
		for _, text := range []string{whole, whole + strings.Repeat(" ", 65536-len(whole)), whole[1:], whole + piece + piece} {
			err := holdList(t, text)
			if (err == api.ErrLexLong) != (len(text) > 65536) {
				t.Fatalf("List of %q is %d, of %d bytes", short(text), err, len(text))
			}
		}
	}
}

// A list is new memory, its spare room too.
func TestListsAreNewMemory(t *testing.T) {
	const text = "arg0 & 0x1f >= 2;"
	want, _, _ := listByHand(text)
	first, _, _ := lex.List(text)
	second, _, _ := lex.List(text)
	whole := first[:cap(first)]
	for i := range whole {
		whole[i] = api.Token{Kind: 9, Text: "x"}
	}
	third, _, _ := lex.List(text)
	if !slices.Equal(second, want) || !slices.Equal(third, want) {
		t.Errorf("a change of one answer of List is seen in another: %v, %v", second, third)
	}
}

// taken are the first n tokens that All goes through, as many as there are.
func taken(all iter.Seq2[api.Token, api.Errno], n int) []api.Token {
	var l []api.Token
	if n == 0 {
		return l
	}
	for x := range all {
		l = append(l, x)
		if len(l) == n {
			break
		}
	}
	return l
}

// All may be left early, at each token, and gone through again.
func TestAllIsLeftEarly(t *testing.T) {
	for _, text := range []string{"", "a", "a b <= 0x1f ; # x", "a b $ c", "00"} {
		all := lex.All(text)
		whole := taken(all, -1)
		for range 2 {
			for n := range len(whole) + 3 {
				if l := taken(all, n); !slices.Equal(l, whole[:min(n, len(whole))]) {
					t.Errorf("the first %d of All of %q are %v, of %v", n, text, l, whole)
				}
			}
		}
	}
	// Who says no is not asked again.
	calls := 0
	lex.All("a b c")(func(api.Token, api.Errno) bool { calls++; return calls < 2 })
	if calls != 2 {
		t.Errorf("All calls %d times, where it was left at the second one", calls)
	}
}

// All may be gone through within itself, and by turns with itself.
func TestAllWithinItself(t *testing.T) {
	const text = "a <= 7 $"
	all := lex.All(text)
	whole := taken(all, -1)
	if len(whole) != 4 {
		t.Fatalf("All of %q is %v", text, whole)
	}
	var outer []api.Token
	for x := range all {
		outer = append(outer, x)
		for i := range len(whole) {
			if l := taken(all, i+1); !slices.Equal(l, whole[:i+1]) {
				t.Fatalf("within All of %q the first %d are %v", text, i+1, l)
			}
		}
	}
	if !slices.Equal(outer, whole) {
		t.Errorf("All of %q around itself is %v", text, outer)
	}
	one, endOne := iter.Pull2(all)
	defer endOne()
	two, endTwo := iter.Pull2(all)
	defer endTwo()
	for i := range len(whole) {
		x, err, is := one()
		y, otherErr, otherIs := two()
		if x != whole[i] || y != x || err != otherErr || !is || !otherIs || (err == api.OK) != (i < 3) {
			t.Errorf("All of %q by turns, at %d: %v, %d, %t and %v, %d, %t", text, i, x, err, is, y, otherErr, otherIs)
		}
	}
	if x, err, is := one(); is || x != (api.Token{}) || err != api.OK {
		t.Errorf("behind the last of All of %q: %v, %d", text, x, err)
	}
}

// What is wrong ends all, and is told with a zero token.
func TestAllEndsWithTheFirstError(t *testing.T) {
	for _, c := range []struct {
		text string
		n    int
		err  api.Errno
	}{
		{"a b $ c $", 3, api.ErrLexByte},
		{"$", 1, api.ErrLexByte},
		{"a 00 $", 2, api.ErrLexNumber},
		{"; " + strings.Repeat("w", 33) + " 00", 2, api.ErrLexName},
		{strings.Repeat("a", 65537), 1, api.ErrLexLong},
		{strings.Repeat(" ", 65537), 1, api.ErrLexLong},
		{strings.Repeat(" ", 65536), 1, api.OK},
		{"a b", 3, api.OK},
		{"", 1, api.OK},
	} {
		n := 0
		for x, err := range lex.All(c.text) {
			n++
			want := api.OK
			if n == c.n {
				want = c.err
			}
			if err != want || err != api.OK && x != (api.Token{}) || err == api.OK && (x.Kind == api.TokenEnd) != (n == c.n) {
				t.Errorf("All of %q, the token %d: %v, %d", short(c.text), n, x, err)
			}
		}
		if n != c.n {
			t.Errorf("All of %q are %d, not %d", short(c.text), n, c.n)
		}
	}
}

func BenchmarkList(b *testing.B) {
	text := strings.Repeat("arg0 & 0x1f >= 2; # x\n", 65536/22)
	for b.Loop() {
		lex.List(text)
	}
}
