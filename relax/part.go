package relax

import "switchback/api"

// part is a line that makes words.
type part struct {
	line  int // its number
	short int // how many words it makes, if it is not long
	more  int // of a branch: how many words more it makes, if it is long
	to    int // of a branch: how many parts stand ahead of where it goes to
	reach int // of a branch: its displacement by the forms that all branches have; beyond what may be: it is long
}

// The displacements that may be.
const (
	mostBack    = -128
	mostForward = 127
)

// near tells whether a displacement may be.
func near(reach int) bool {
	return reach >= mostBack && reach <= mostForward
}

// partsOf are the parts of a list, all branches short.
func partsOf(l []api.Line, at labels) []part {
	var parts []part
	for i, x := range l {
		if x.Op == api.LineLabel {
			continue
		}
		p := part{line: i, short: 1}
		switch {
		case x.Op == api.MacLIT || x.Op == api.MacJML || x.Op == api.MacCALL:
			p.short = 2
		case x.Op == api.MacJTAB:
			p.short = 2 + len(x.List)
		case x.Op == api.MacJMP:
			p.more, p.to = 1, at[x.Label]
		case branches(x.Op):
			p.more, p.to = 2, at[x.Label]
		}
		parts = append(parts, p)
	}
	return parts
}

// words is how many words a part makes.
func (p part) words() int {
	if near(p.reach) {
		return p.short
	}
	return p.short + p.more
}

// startsOf are the places at which parts begin, and behind them that of what follows them all.
func startsOf(parts []part) []int {
	starts := make([]int, len(parts)+1)
	for i, p := range parts {
		starts[i+1] = starts[i] + p.words()
	}
	return starts
}

// placesOf are the places at which a list's lines begin.
func placesOf(l []api.Line, starts []int) []int {
	places := make([]int, len(l))
	parts := 0
	for i, x := range l {
		places[i] = starts[parts]
		if x.Op != api.LineLabel {
			parts++
		}
	}
	return places
}
