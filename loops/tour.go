package loops

import (
	"switchback/api"
	"switchback/graph"
)

// ways are the blocks to which each block leads.
type ways [][]int

// waysOf are a graph's ways; nil, if it does not walk.
func waysOf(g api.Graph) ways {
	n := len(g.Blocks)
	if n == 0 || n > api.MaxBlocks {
		return nil
	}
	w := make(ways, n)
	for b := range w {
		w[b] = graph.Next(g, b)
		for _, to := range w[b] {
			if to < 0 || to >= n {
				return nil
			}
		}
	}
	return w
}

// tour is how all blocks that are reached are gone through, from the block 0 on, as deep as may be first.
type tour struct {
	order  []int // the blocks, as they are met
	from   []int // of each block that is met, but the block 0, the one from which it was
	number []int // of each block its place in order; -1, if it is not met
	behind []int // of each block the place behind the last one that was met from it on
}

func goThrough(w ways) *tour {
	t := &tour{from: make([]int, len(w)), number: make([]int, len(w)), behind: make([]int, len(w))}
	for b := range w {
		t.number[b] = -1
	}
	var meet func(b int)
	meet = func(b int) {
		t.number[b] = len(t.order)
		t.order = append(t.order, b)
		for _, to := range w[b] {
			if !t.meets(to) {
				t.from[to] = b
				meet(to)
			}
		}
		t.behind[b] = len(t.order)
	}
	meet(0)
	return t
}

func (t *tour) meets(b int) bool {
	return t.number[b] >= 0
}

// holds tells of two blocks that are met whether the second one was met from the first one on, or is it.
func (t *tour) holds(a, b int) bool {
	return t.number[a] <= t.number[b] && t.number[b] < t.behind[a]
}

// tree is a tour from each block to those of which it is the nearest: it holds what the block is around.
func tree(near []int) *tour {
	w := make(ways, len(near))
	for b, a := range near {
		if a >= 0 {
			w[a] = append(w[a], b)
		}
	}
	return goThrough(w)
}
