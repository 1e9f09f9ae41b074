package emit

import (
	"iter"

	"switchback/api"
)

// goals are the places, within the function, that a line goes to.
func goals(x *api.Line) iter.Seq[*int] {
	return func(yield func(*int) bool) {
		if x.Op >= api.MacBEQ && x.Op <= api.MacJMP {
			yield(&x.Label)
			return
		}
		for i := range x.List {
			if !yield(&x.List[i]) {
				return
			}
		}
	}
}

// labelled are the lines with labels for the places that some of them go to: numbers from first on, in the order in which they stand. It tells the first one behind them.
func (w *writer) labelled(function, first int) ([]api.Line, int) {
	labels, next := w.labels(first)
	lines := []api.Line{{Op: api.LineLabel, Label: function}}
	done := 0
	for _, m := range w.marks {
		if labels[m.place] == 0 {
			continue
		}
		lines = append(lines, w.lines[done:m.ahead]...)
		lines = append(lines, api.Line{Op: api.LineLabel, Label: labels[m.place]})
		done = m.ahead
	}
	lines = append(lines, w.lines[done:]...)
	for i := range lines {
		for to := range goals(&lines[i]) {
			*to = labels[*to]
		}
	}
	return lines, next
}

// labels are the labels of the places, and the first one behind them; none, 0, where no line goes to. (The label 0 is a function's.)
func (w *writer) labels(first int) ([]int, int) {
	wanted := make([]bool, w.clearing()+1)
	for i := range w.lines {
		for to := range goals(&w.lines[i]) {
			wanted[*to] = true
		}
	}
	labels, next := make([]int, len(wanted)), first
	for _, m := range w.marks {
		if wanted[m.place] {
			labels[m.place] = next
			next++
		}
	}
	return labels, next
}
