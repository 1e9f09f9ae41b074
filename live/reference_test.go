package live_test

import (
	"slices"
	"testing"

	"switchback/api"
	"switchback/graph"
	"switchback/sample"
)

// touches tells how a block deals with a temp: whether it uses it ahead of setting it, and whether it sets it.
func touches(b *api.Block, temp int) (uses, sets bool) {
	is := func(p *int) bool { return *p == temp }
	for k := range b.Code {
		used, set := sample.Temps(&b.Code[k])
		uses = uses || !sets && slices.ContainsFunc(used, is)
		sets = sets || set != nil && is(set)
	}
	return uses || !sets && slices.ContainsFunc(sample.EndTemps(&b.End), is), sets
}

// distance is how many blocks the shortest way has that leads from a block, along blocks that do not set a temp, to one that uses it ahead of setting it; -1, if there is none.
func distance(g api.Graph, from, temp int) int {
	met := make([]bool, len(g.Blocks))
	met[from] = true
	blocks := 1
	for now := []int{from}; len(now) > 0; blocks++ {
		var next []int
		for _, b := range now {
			uses, sets := touches(&g.Blocks[b], temp)
			if uses {
				return blocks
			}
			if sets {
				continue
			}
			for _, to := range graph.Next(g, b) {
				if !met[to] {
					met[to] = true
					next = append(next, to)
				}
			}
		}
		now = next
	}
	return -1
}

// whole holds what is told of a graph against the chapter's words, temp by temp and block by block.
func whole(t *testing.T, g api.Graph) [][]int {
	t.Helper()
	told := needs(t, g)
	for temp := range g.Temps {
		places := sample.Needed(g, temp)
		for b := range g.Blocks {
			is := slices.Contains(told[b], temp)
			if way := distance(g, b, temp); is != (way > 0) || way > len(g.Blocks) {
				t.Fatalf("%d at %d: told %v, a way of %d: %s", temp, b, is, way, short(g))
			}
			if is != places[b][0] {
				t.Fatalf("%d at %d: told %v, needed %v: %s", temp, b, is, places[b][0], short(g))
			}
		}
	}
	stepByStep(t, g, told)
	return told
}

// stepByStep has each block by what it does and what is told of those to which it leads (P13.1).
func stepByStep(t *testing.T, g api.Graph, told [][]int) {
	t.Helper()
	for b := range g.Blocks {
		var want []int
		for temp := range g.Temps {
			uses, sets := touches(&g.Blocks[b], temp)
			for _, to := range graph.Next(g, b) {
				uses = uses || !sets && slices.Contains(told[to], temp)
			}
			if uses {
				want = append(want, temp)
			}
		}
		if !slices.Equal(told[b], want) {
			t.Fatalf("%d: told %d, step by step %d: %s", b, told[b], want, short(g))
		}
	}
}
