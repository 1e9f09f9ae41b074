package emit

import (
	"switchback/api"
	"switchback/machine"
)

// writer writes the lines of a function. Where they go to are places: the blocks by their numbers, and two more behind these.
type writer struct {
	graph  api.Graph
	layout api.Layout
	arrays []array
	lines  []api.Line // without labels
	marks  []mark
	next   int // the place that stands behind the block that is written
}

// mark tells where a place stands: behind how many lines.
type mark struct {
	place, ahead int
}

// leaving is the place at which the function is left.
func (w *writer) leaving() int {
	return len(w.graph.Blocks)
}

// clearing is the place at which one word more of the local arrays becomes 0.
func (w *writer) clearing() int {
	return len(w.graph.Blocks) + 1
}

// put writes a line; of lines that are too many one tells it.
func (w *writer) put(x api.Line) {
	if len(w.lines) <= api.MaxLines {
		w.lines = append(w.lines, x)
	}
}

func (w *writer) stand(place int) {
	w.marks = append(w.marks, mark{place, len(w.lines)})
}

// jump goes to a place, if that does not stand behind what is written.
func (w *writer) jump(place int) {
	if place != w.next {
		w.put(api.Line{Op: api.MacJMP, Label: place})
	}
}

func (w *writer) branch(op, a, b, place int) {
	w.put(api.Line{Op: op, A: a, B: b, Label: place})
}

// inFrame loads a register from a word of the frame, or stores it there.
func (w *writer) inFrame(op, register, at int) {
	w.put(api.Line{Op: op, A: register, B: machine.Frame, Imm: at})
}

// The numbers that Imm of MacLI may be.
const (
	leastImm = -1 << 15
	mostImm  = 1<<15 - 1
)

// constant sets a register to a word.
func (w *writer) constant(register int, n uint32) {
	if signed := int(int32(n)); signed >= leastImm && signed <= mostImm {
		w.put(api.Line{Op: api.MacLI, A: register, Imm: signed})
		return
	}
	w.put(api.Line{Op: api.MacLIT, A: register, N: n})
}
