package flow

import (
	"slices"
	"testing"

	"ravelin/api"
)

// Places are told up to the one at which whoever ranges over them leaves.
func TestPlacesLeftEarly(t *testing.T) {
	q := []api.Insn{{Code: 0x15, Jt: 2, Jf: 0}, {Code: 0x06}, {Code: 0x00}, {Code: 0x06}}
	for most := 1; most < 5; most++ {
		var to, at []int
		for place := range ways(q, 0) {
			if to = append(to, place); len(to) == most {
				break
			}
		}
		for place := range comeTo(q) {
			if at = append(at, place); len(at) == most {
				break
			}
		}
		if !slices.Equal(to, []int{3, 1}[:min(most, 2)]) || !slices.Equal(at, []int{0, 1, 3}[:min(most, 3)]) {
			t.Errorf("left at %d places: %v, %v", most, to, at)
		}
	}
}
