package decision

import "ravelin/api"

// Where the parts of the data begin, as layer 2 lays them; it is not asked, since this layer calls layer 7 alone.
const (
	nrAt   = 0
	archAt = 4
	ipAt   = 8
	argsAt = 16
)

// How many bytes, and bits, a word of the data has; a field has two words.
const (
	wordLen  = 4
	wordBits = 8 * wordLen
)

// words are the data's, by their places.
type words [api.DataLen / wordLen]uint32

func wordsOf(d api.Data) words {
	var w words
	w[nrAt/wordLen], w[archAt/wordLen] = d.Nr, d.Arch
	w.lay(ipAt, d.IP)
	for i, arg := range d.Args {
		w.lay(argAt(i), arg)
	}
	return w
}

// lay puts a number of two words at a place, the low one first.
func (w *words) lay(at int, v uint64) {
	w[at/wordLen], w[at/wordLen+1] = uint32(v), uint32(v>>wordBits)
}

// fieldAt is where a field's low word is.
func fieldAt(field int) int {
	if field == api.FieldIP {
		return ipAt
	}
	return argAt(field)
}

func argAt(i int) int { return argsAt + 2*wordLen*i }
