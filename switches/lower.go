package switches

import "switchback/api"

// lowerer puts comparisons and tables in the place of a graph's switch.
type lowerer struct {
	graph    *api.Graph
	constant int // the temp that is compared with; the graph gets it with the first comparison
	value    int
	other    int // to where control goes, if the value is no case's
	cases    []api.Case
}

// search ends a block with what finds the value's piece among some that stand side by side. The pieces are halved again and again, so that few comparisons stand behind one another.
func (l *lowerer) search(b int, plan [][2]int) {
	if len(plan) == 0 {
		l.graph.Blocks[b].End = api.End{Kind: api.EndJump, To: l.other}
		return
	}
	if len(plan) == 1 {
		l.piece(b, plan[0])
		return
	}
	half := len(plan) / 2
	less, more := l.block(), l.block()
	l.compare(b, api.InsLtU, l.cases[plan[half][0]].N, less, more)
	l.search(less, plan[:half])
	l.search(more, plan[half:])
}

// block puts a new block behind all others.
func (l *lowerer) block() int {
	l.graph.Blocks = append(l.graph.Blocks, api.Block{})
	return len(l.graph.Blocks) - 1
}

func (l *lowerer) compare(b, op int, n uint32, yes, no int) {
	own := &l.graph.Blocks[b]
	own.Code = append(own.Code, api.Ins{Op: api.InsConst, D: l.constant, N: n})
	own.End = api.End{Kind: api.EndIf, Op: op, A: l.value, B: l.constant, To: yes, Else: no}
	l.graph.Temps = l.constant + 1
}

// The sorts of pieces: of one case; of some, with numbers between them that are no case's; of all numbers from the first one to the last one.
const (
	lone = iota
	gaps
	full
)

func sortOf(cases []api.Case, stretch int) int {
	switch {
	case len(cases) == 1:
		return lone
	case len(cases) < stretch:
		return gaps
	}
	return full
}

// piece ends a block with what finds the value's case in a piece.
func (l *lowerer) piece(b int, ends [2]int) {
	cases := l.cases[ends[0] : ends[1]+1]
	least := cases[0].N
	table := make([]int, cases[len(cases)-1].N-least+1)
	switch sortOf(cases, len(table)) {
	case lone:
		l.compare(b, api.InsEq, least, cases[0].To, l.other)
	case gaps:
		for i := range table {
			table[i] = l.other
		}
		fallthrough
	case full:
		for _, c := range cases {
			table[c.N-least] = c.To
		}
		l.graph.Blocks[b].End = api.End{Kind: api.EndTable, A: l.value, N: least, Targets: table, To: l.other}
	}
}
