package relax

import "switchback/api"

// labels are the places of labels among the parts of a list: behind how many parts each stands.
type labels map[int]int

func (at labels) stands(label int) bool {
	_, is := at[label]
	return is
}

// findLabels goes through a list line by line, up to the first one that may not be.
func findLabels(l []api.Line) (labels, int, api.Errno) {
	at := labels{}
	parts := 0
	for i, x := range l {
		if e := wrong(x); e != api.OK {
			return nil, i, e
		}
		if x.Op != api.LineLabel {
			parts++
			continue
		}
		if at.stands(x.Label) {
			return nil, i, api.ErrRelaxTwice
		}
		at[x.Label] = parts
	}
	return at, 0, api.OK
}

// astray is the first line that goes to a label that stands nowhere, or -1.
func astray(l []api.Line, at labels) int {
	first := -1
lines:
	for i, x := range l {
		for _, label := range goals(x) {
			if !at.stands(label) {
				first = i
				break lines
			}
		}
	}
	return first
}
