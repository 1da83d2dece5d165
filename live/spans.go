package live

import (
	"cmp"
	"slices"

	"ravelin/api"
)

// gather is the span of each register that a right Mir uses or sets, by its number. One that is asked for at first needs nothing more: the first instruction uses it, or it is asked for behind that one.
func gather(p api.Mir) map[int]Span {
	spans := make(map[int]Span)
	for at, later := range behind(p) {
		uses, sets := named(p.L[at])
		for reg := range (later | uses | sets).all() {
			s, met := spans[reg]
			if !met {
				s = Span{Reg: reg, From: at}
			}
			s.To = at
			spans[reg] = s
		}
	}
	return spans
}

// inOrder are spans as they are told.
func inOrder(spans map[int]Span) []Span {
	var l []Span
	for _, s := range spans {
		l = append(l, s)
	}
	slices.SortFunc(l, func(s, t Span) int {
		return cmp.Or(cmp.Compare(s.From, t.From), cmp.Compare(s.Reg, t.Reg))
	})
	return l
}
