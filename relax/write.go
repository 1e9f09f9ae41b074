package relax

import (
	"switchback/api"
	"switchback/enc"
)

// writer writes words.
type writer struct {
	at     labels
	starts []int
	words  []uint32
	kinds  []int
}

func newWriter(at labels, starts []int) *writer {
	all := starts[len(starts)-1]
	return &writer{at: at, starts: starts, words: make([]uint32, 0, all), kinds: make([]int, 0, all)}
}

func (w *writer) put(kind int, word uint32) {
	w.words = append(w.words, word)
	w.kinds = append(w.kinds, kind)
}

// instruction writes an instruction that may be.
func (w *writer) instruction(c api.Code) {
	word, _ := enc.Encode(c)
	w.put(api.WordIns, word)
}

// label writes a label's place.
func (w *writer) label(kind, label int) {
	w.put(kind, uint32(w.starts[w.at[label]]))
}

// line writes the words of a line; reach is a branch's displacement.
func (w *writer) line(x api.Line, reach int) {
	c := codeOf(x)
	if branches(x.Op) {
		w.branch(c, x.Label, reach)
		return
	}
	w.instruction(c)
	switch x.Op {
	case api.MacLIT:
		w.put(api.WordLiteral, x.N)
	case api.MacJML, api.MacCALL:
		w.label(api.WordLiteral, x.Label)
	case api.MacJTAB:
		w.put(api.WordTable, uint32(len(x.List)))
		for _, label := range x.List {
			w.label(api.WordTable, label)
		}
	}
}

// branch writes a branch; a long one goes by MacJML, and over that where it is not to go.
func (w *writer) branch(c api.Code, label, reach int) {
	if near(reach) {
		c.Imm = reach
		w.instruction(c)
		return
	}
	if c.Op != api.MacJMP {
		w.instruction(api.Code{Op: other(c.Op), A: c.A, B: c.B, Imm: 2})
	}
	w.instruction(api.Code{Op: api.MacJML})
	w.label(api.WordLiteral, label)
}

// other is the branch that goes where one does not: they stand in pairs, the first of which have even numbers.
func other(op int) int {
	return op ^ 1
}
