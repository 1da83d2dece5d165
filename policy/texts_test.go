package policy_test

import (
	"strconv"
	"strings"

	"ravelin/api"
)

// random are numbers that follow no shape, the same ones at each run.
type random uint64

func (r *random) next() uint64 {
	*r = *r*6364136223846793005 + 1442695040888963407
	return uint64(*r ^ *r>>29)
}

// below is a number from 0 to n - 1.
func (r *random) below(n int) int { return int(r.next() >> 33 % uint64(n)) }

// number is small, or of any size, or an edge.
func (r *random) number() uint64 {
	switch r.below(4) {
	case 0:
		return r.next()<<32 ^ r.next()
	case 1:
		return []uint64{0, 1, 65535, 65536, 1<<32 - 1, 1 << 32, 1<<63 - 1, 1 << 63, 1<<64 - 2, 1<<64 - 1}[r.below(10)]
	}
	return uint64(r.below(300))
}

// name is a word, one of the grammar's own too.
func (r *random) name() string {
	l := []string{"read", "write", "_", "x86_64", "arch", "foreign", "default", "on", "when", "do", "kill_process", "trap", "errno", "allow", "or", "and", "not", "true", "false", "arg0", "arg6", "ip", "Read", strings.Repeat("w", 32)}
	return l[r.below(len(l))]
}

func (r *random) verdict() api.Verdict {
	v := api.Verdict{Kind: api.ActionKind(1 + r.below(8))}
	if v.Kind == 3 || v.Kind == 4 || v.Kind == 6 {
		v.Data = r.number()
	}
	return v
}

// expr is an expression of at most some depth, as ParseExpr may answer it.
func (r *random) expr(depth int) api.Expr {
	op := api.ExprOp(1 + r.below(6))
	if depth == 0 && op >= 3 && op <= 5 {
		op = 6
	}
	e := api.Expr{Op: op}
	switch op {
	case 3:
		e.Args = []api.Expr{r.expr(depth - 1)}
	case 4, 5:
		for range 2 + r.below(3) {
			e.Args = append(e.Args, r.expr(depth-1))
		}
	case 6:
		e.Field, e.Mask, e.Rel, e.Value = r.below(7), 1<<64-1, api.Rel(1+r.below(6)), r.number()
		if r.below(2) == 0 {
			e.Mask = r.number()
		}
	}
	return e
}

// policy is one as Parse may answer it.
func (r *random) policy(rules, depth int) api.Policy {
	p := api.Policy{Arch: r.name(), Foreign: r.verdict(), Default: r.verdict()}
	for range rules {
		x := api.Rule{When: api.Expr{Op: 1}, Do: r.verdict()}
		for range 1 + r.below(4) {
			c := api.Call{Name: r.name()}
			if r.below(3) == 0 {
				c = api.Call{Nr: r.number()}
			}
			x.Calls = append(x.Calls, c)
		}
		if r.below(3) > 0 {
			x.When = r.expr(depth)
		}
		p.Rules = append(p.Rules, x)
	}
	return p
}

// spelled writes the texts of tokens in other ways: numbers with other digits, blanks and remarks of all kinds, none where none is needed.
func (r *random) spelled(l []string) string {
	gaps := []string{" ", "\t", "\n", "\r\n", "  \t ", "#\n", " # on $ ( \" \n", "#a\n\n#b\n"}
	var b strings.Builder
	for i, s := range l {
		if n, err := strconv.ParseUint(s, 0, 64); err == nil {
			s = []string{strconv.FormatUint(n, 10), "0x" + strconv.FormatUint(n, 16), "0x" + leftPadded(n)}[r.below(3)]
		}
		if i > 0 && (r.below(2) == 0 || sticks(l[i-1], s)) {
			b.WriteString(gaps[r.below(len(gaps))])
		}
		b.WriteString(s)
	}
	return b.String() + []string{"", "\n", "#", "# x"}[r.below(4)]
}

// spelledRough puts texts of tokens together, most with gaps between them.
func (r *random) spelledRough(l []string) string {
	var b strings.Builder
	for _, s := range l {
		b.WriteString(s)
		if r.below(30) > 0 {
			b.WriteString([]string{" ", "\n"}[r.below(2)])
		}
	}
	return b.String()
}

func leftPadded(n uint64) string {
	s := strconv.FormatUint(n, 16)
	return strings.Repeat("0", 16-len(s)) + s
}

// sticks: would these two be one token, or others, without a gap?
func sticks(a, b string) bool {
	last, first := a[len(a)-1], b[0]
	return isPart(last) && isPart(first)
}

func isPart(c byte) bool {
	return c == '_' || c >= '0' && c <= '9' || c >= 'a' && c <= 'z' || c >= 'A' && c <= 'Z'
}

// some says yes one time in n.
func (r *random) some(n int) func() bool {
	return func() bool { return r.below(n) == 0 }
}

// mutated changes some of the texts of tokens: one goes, comes, is doubled, is another one, or two change places.
func (r *random) mutated(l []string) []string {
	l = append([]string{}, l...)
	others := []string{"arch", "foreign", "default", "on", "when", "do", "trap", "errno", "trace", "log", "allow", "or", "and", "not", "true", "false", "arg0", "arg6", "ip", "x", "0", "7", "0xff", ";", ",", "(", ")", "&", "==", "!=", "<", "<=", ">", ">=", "=", "!", "$", "00", strings.Repeat("w", 33), "#", "\x80"}
	for range 1 + r.below(2) {
		if len(l) == 0 {
			return l
		}
		i, j := r.below(len(l)), r.below(len(l))
		switch r.below(6) {
		case 0:
			l = append(l[:i], l[i+1:]...)
		case 1:
			l = append(l[:i+1], l[i:]...)
		case 2:
			l[i] = others[r.below(len(others))]
		case 3:
			l = append(l[:i], append([]string{others[r.below(len(others))]}, l[i:]...)...)
		case 4:
			l[i], l[j] = l[j], l[i]
		case 5:
			l = l[:i]
		}
	}
	return l
}
