package thread

import (
	"switchback/api"
	"switchback/graph"
)

// follower finds out where control comes to through blocks that do nothing but lead on. Blocks from which it comes to the same one are a group.
type follower struct {
	group   []int   // from a block it leads on to one that stands for its group
	goal    []int   // of such a one: the block to which control comes
	hanging [][]int // of such a one: the blocks that hang on where the group leads
	next    [][]int // of a block without instructions: the blocks to which it leads
	alike   []int   // how many of these, from the first one on, are known to be of one group
	work    []int
}

func follow(g *api.Graph) *follower {
	n := len(g.Blocks)
	f := &follower{group: make([]int, n), goal: make([]int, n), hanging: make([][]int, n), next: make([][]int, n), alike: make([]int, n)}
	for b := range n {
		f.group[b], f.goal[b] = b, b
	}
	for b := range n {
		if len(g.Blocks[b].Code) == 0 && g.Blocks[b].End.Kind != api.EndReturn {
			f.next[b] = graph.Next(*g, b)
			f.hang(b, f.next[b][0])
			f.work = append(f.work, b)
		}
	}
	f.settle()
	return f
}

// settle finds the blocks all of whose targets are of one group. Each group that becomes larger may make others such.
func (f *follower) settle() {
blocks:
	for len(f.work) > 0 {
		b := f.work[len(f.work)-1]
		f.work = f.work[:len(f.work)-1]
		next, ahead := f.next[b], f.alike[b]
		for ; f.alike[b] < len(next); f.alike[b]++ {
			if other := next[f.alike[b]]; f.of(other) != f.of(next[0]) {
				if f.alike[b] > ahead {
					f.hang(b, other)
				}
				continue blocks
			}
		}
		f.lead(b, next[0])
	}
}

// of is the block that stands for the group of another one.
func (f *follower) of(b int) int {
	for f.group[b] != b {
		f.group[b] = f.group[f.group[b]]
		b = f.group[b]
	}
	return b
}

// goalOf is the block to which control comes that goes to a block.
func (f *follower) goalOf(b int) int {
	return f.goal[f.of(b)]
}

// hang keeps that a block hangs on where another one leads.
func (f *follower) hang(b, on int) {
	group := f.of(on)
	f.hanging[group] = append(f.hanging[group], b)
}

// lead makes one group of a block's and of that to which it leads. Who hangs on both stands in either list: so it is enough to look at the shorter one's again.
func (f *follower) lead(b, to int) {
	less, more := f.of(b), f.of(to)
	if less == more {
		// Control that goes round for ever stays at this block.
		return
	}
	goal := f.goal[more]
	if len(f.hanging[less]) > len(f.hanging[more]) {
		less, more = more, less
	}
	f.group[less] = more
	f.goal[more] = goal
	f.work = append(f.work, f.hanging[less]...)
	f.hanging[more] = append(f.hanging[more], f.hanging[less]...)
	f.hanging[less] = nil
}

// begin puts the block to which control comes from the block 0 in its place.
func (f *follower) begin(g *api.Graph) {
	group := f.of(0)
	first := f.goal[group]
	g.Blocks[0], g.Blocks[first] = g.Blocks[first], g.Blocks[0]
	f.goal[group] = 0
}
