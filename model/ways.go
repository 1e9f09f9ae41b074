package model

import "switchback/api"

// none is no node: no statement is next, or no loop is around.
const none = -1

// ways tells, by a node's number, what is around it: so control can go on from any statement, however it came there.
type ways struct {
	// around is the parent; nth is which of its kids the node is.
	around []int
	nth    []int
	// loop is the innermost loop around; left is what a break leaves: that, or a switch within it.
	loop []int
	left []int
	// targets are the nodes of each function's targets.
	targets [][]int
}

func newWays(p api.Program) ways {
	size := len(p.Nodes)
	w := ways{make([]int, size), make([]int, size), make([]int, size), make([]int, size), targetsOf(p)}
	file := size - 1
	w.loop[file], w.left[file] = none, none
	// Parents stand behind their kids: from the end on, what is around a node is known when it is met.
	for i := file; i >= 0; i-- {
		for k, kid := range p.Nodes[i].Kids {
			w.around[kid], w.nth[kid] = i, k
			w.loop[kid], w.left[kid] = w.loop[i], w.left[i]
			switch p.Nodes[i].Kind {
			case api.NodeWhile, api.NodeDo, api.NodeFor:
				w.loop[kid], w.left[kid] = i, i
			case api.NodeSwitch:
				w.left[kid] = i
			}
		}
	}
	return w
}

// targetsOf finds the nodes of the targets: a function's nodes stand ahead of its block's, and behind the blocks of those ahead.
func targetsOf(p api.Program) [][]int {
	l := make([][]int, len(p.Funcs))
	first := 0
	for f, fn := range p.Funcs {
		l[f] = make([]int, fn.Targets)
		for i := first; i < fn.Body; i++ {
			switch p.Nodes[i].Kind {
			case api.NodeLabel, api.NodeCase, api.NodeDefault:
				l[f][p.Nodes[i].Own] = i
			}
		}
		first = fn.Body
	}
	return l
}
