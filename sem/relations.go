package sem

import "ravelin/api"

// number is what a test holds against another one, without a sign.
type number uint64

// relation: is a number to another one as it says?
type relation func(a, b number) bool

// relations are how two numbers are held against each other.
func relations() map[api.Rel]relation {
	return map[api.Rel]relation{
		api.RelEq: number.equal,
		api.RelNe: number.unequal,
		api.RelLt: number.below,
		api.RelLe: number.notAbove,
		api.RelGt: number.above,
		api.RelGe: number.notBelow,
	}
}

func (a number) equal(b number) bool    { return a == b }
func (a number) unequal(b number) bool  { return a != b }
func (a number) below(b number) bool    { return a < b }
func (a number) notAbove(b number) bool { return a <= b }
func (a number) above(b number) bool    { return a > b }
func (a number) notBelow(b number) bool { return a >= b }
