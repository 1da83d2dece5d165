package alloc

import (
	"container/heap"

	"ravelin/live"
)

// queue are the spans that are open, asked by where they end.
type queue interface {
	heap.Interface
	first() live.Span // the one that ends first
	last() int        // where in the queue the one stands that ends last
}

// byEnd are spans as a heap: the one that ends first is the first one.
type byEnd []live.Span

func (s byEnd) Len() int { return len(s) }

func (s byEnd) Less(i, j int) bool { return s[i].To < s[j].To }

func (s byEnd) Swap(i, j int) { s[i], s[j] = s[j], s[i] }

func (s *byEnd) Push(x any) { *s = append(*s, x.(live.Span)) }

func (s *byEnd) Pop() any {
	l := *s
	x := l[len(l)-1]
	*s = l[:len(l)-1]
	return x
}

func (s byEnd) first() live.Span { return s[0] }

func (s byEnd) last() int {
	found := 0
	for i := range s {
		if s[i].To > s[found].To {
			found = i
		}
	}
	return found
}

// closeEnded takes out those that end ahead of a place, the first one first.
func closeEnded(open queue, at int) []live.Span {
	var l []live.Span
	for open.Len() > 0 && open.first().To < at {
		l = append(l, heap.Pop(open).(live.Span))
	}
	return l
}
