package policy

import (
	"slices"

	"ravelin/api"
	"ravelin/lex"
)

// reader goes through a text token by token; it gives up by a panic with a refusal.
type reader struct {
	text   string
	token  api.Token // the first one that is not read yet
	behind int       // the place behind it
	within int       // how many of `(` and `not` it stands within
}

// refusal is what a text is refused with.
type refusal struct {
	err api.Errno
	at  int
}

// read reads a text as a whole of some kind, or tells why it is none.
func read[T any](text string, whole func(*reader) T) (x T, err api.Errno, at int) {
	defer func() {
		switch told := recover().(type) {
		case nil:
		case refusal:
			err, at = told.err, told.at
		default: // a fault of the program, not of the text
			panic(told)
		}
	}()
	r := &reader{text: text}
	r.advance()
	return whole(r), api.OK, 0
}

// advance goes on to the next token. It is asked for only when the one ahead of it may stand there, so that lex's error is not told ahead of its turn.
func (r *reader) advance() {
	t, next, err := lex.Next(r.text, r.behind)
	if err != api.OK {
		panic(refusal{err, next})
	}
	r.token, r.behind = t, next
}

// refuse gives up at the token.
func (r *reader) refuse(err api.Errno) {
	panic(refusal{err, r.token.At})
}

// at: does this word, or this sign, stand there?
func (r *reader) at(mark string) bool {
	return r.token.Text == mark
}

// skip goes on behind a word or a sign, if it stands there.
func (r *reader) skip(mark string) bool {
	if !r.at(mark) {
		return false
	}
	r.advance()
	return true
}

// demand goes on behind a word or a sign, which must stand there.
func (r *reader) demand(mark string) {
	if !r.skip(mark) {
		r.refuse(api.ErrPolicyWord)
	}
}

// take goes on behind a token that must be of a kind.
func (r *reader) take(kind api.TokenKind) api.Token {
	t := r.token
	if t.Kind != kind {
		r.refuse(api.ErrPolicyWord)
	}
	r.advance()
	return t
}

func (r *reader) name() string { return r.take(api.TokenWord).Text }

func (r *reader) number() uint64 { return r.take(api.TokenNumber).Num }

// choice goes on behind one of several words or signs: it is the place of that one among them.
func (r *reader) choice(marks []string) int {
	i := slices.Index(marks, r.token.Text)
	if i < 0 {
		r.refuse(api.ErrPolicyWord)
	}
	r.advance()
	return i
}

// open goes on behind a `(` or a `not`, unless it stands within too many; close is to follow behind what it holds.
func (r *reader) open() {
	if r.within == api.MaxDepth {
		r.refuse(api.ErrPolicyDeep)
	}
	r.advance()
	r.within++
}

func (r *reader) close() { r.within-- }

// byTurns reads one, and another one behind each mark that follows.
func byTurns[T any](r *reader, mark string, one func() T) []T {
	l := []T{one()}
	for r.skip(mark) {
		l = append(l, one())
	}
	return l
}
