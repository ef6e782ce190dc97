package pack

// How the bits of a word lie: the kind in the lowest ones, then A, B, C; none beyond.
const (
	fields    = 3
	kindBits  = 4
	fieldBits = 8
	wordBits  = kindBits + fields*fieldBits
	kindMost  = 1<<kindBits - 1
	fieldMost = 1<<fieldBits - 1
)

// parts is a word taken apart: its kind, and A, B, C.
type parts struct {
	kind  int
	field [fields]int
}

// fit tells whether each field has room, and whether those behind the first n are 0, for a kind that has but n.
func (x parts) fit(n int) bool {
	for i, f := range x.field {
		if f < 0 || f > fieldMost || i >= n && f != 0 {
			return false
		}
	}
	return true
}

// join is the word of parts that fit.
func join(x parts) uint64 {
	w := uint64(x.kind)
	for i, f := range x.field {
		w |= uint64(f) << (kindBits + i*fieldBits)
	}
	return w
}

// part takes a word apart; false, if a bit is set beyond its fields.
func part(w uint64) (parts, bool) {
	if w>>wordBits != 0 {
		return parts{}, false
	}
	x := parts{kind: int(w & kindMost)}
	for i := range fields {
		x.field[i] = int(w >> (kindBits + i*fieldBits) & fieldMost)
	}
	return x, true
}
