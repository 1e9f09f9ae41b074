package thread

import (
	"switchback/api"
	"switchback/graph"
	"switchback/targets"
)

// joiner makes one block of those that follow one another.
type joiner struct {
	blocks []api.Block
	ways   []int // how many blocks lead to a block
}

// join leaves the blocks that are reached, and puts those to which one jump alone leads behind it.
func join(g *api.Graph) {
	reached := Reached(*g)
	j := joiner{g.Blocks, make([]int, len(g.Blocks))}
	for _, b := range reached {
		for _, to := range graph.Next(*g, b) {
			j.ways[to]++
		}
	}
	behind := make([]bool, len(g.Blocks))
	for _, b := range reached {
		if to, only := j.follows(&g.Blocks[b]); only {
			behind[to] = true
		}
	}
	number := make([]int, len(g.Blocks))
	var left []api.Block
	for _, b := range reached {
		if !behind[b] {
			number[b] = len(left)
			left = append(left, j.whole(b))
		}
	}
	for b := range left {
		for to := range targets.Of(&left[b].End) {
			*to = number[*to]
		}
	}
	g.Blocks = left
}

// follows tells to which block a jump leads, and whether nothing else does.
func (j *joiner) follows(b *api.Block) (int, bool) {
	to := b.End.To
	return to, b.End.Kind == api.EndJump && to != 0 && j.ways[to] == 1
}

// whole is a block with all that follow it.
func (j *joiner) whole(b int) api.Block {
	all := j.blocks[b]
	for {
		to, only := j.follows(&all)
		if !only {
			return all
		}
		all.Code = append(all.Code, j.blocks[to].Code...)
		all.End = j.blocks[to].End
	}
}
