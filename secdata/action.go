package secdata

import "ravelin/api"

// numberBits are the bits of an action's word that hold its Data, where its kind has some.
const numberBits uint32 = 0xffff

// row says how the actions of a kind are written: by the word alone, or by the word and Data.
type row struct {
	kind      api.ActionKind
	word      uint32
	hasNumber bool
}

var rows = [...]row{
	{api.KillProcess, 0x80000000, false},
	{api.KillThread, 0, false},
	{api.Trap, 0x00030000, true},
	{api.Fault, 0x00050000, true},
	{api.Notify, 0x7fc00000, false},
	{api.Trace, 0x7ff00000, true},
	{api.Log, 0x7ffc0000, false},
	{api.Allow, 0x7fff0000, false},
}

// Code is an action's word.
func Code(a api.Action) (uint32, api.Errno) {
	for i := range len(rows) {
		r := rows[i]
		if r.kind == a.Kind && (r.hasNumber || a.Data == 0) {
			return r.word | uint32(a.Data), api.OK
		}
	}
	return 0, api.ErrSecdataAction
}

// Action is the action of a word.
func Action(w uint32) (api.Action, api.Errno) {
	for i := range len(rows) {
		r := rows[i]
		number := w & numberBits
		if r.word == w-number && (r.hasNumber || number == 0) {
			return api.Action{Kind: r.kind, Data: uint16(number)}, api.OK
		}
	}
	return api.Action{}, api.ErrSecdataAction
}
