package loops_test

import (
	"slices"
	"testing"

	"switchback/api"
	"switchback/graph"
	"switchback/loops"
	"switchback/thread"
)

// nextOf are the blocks to which each block of a graph leads.
func nextOf(g api.Graph) [][]int {
	next := make([][]int, len(g.Blocks))
	for b := range next {
		next[b] = graph.Next(g, b)
	}
	return next
}

// waysFrom tells to which blocks ways of one step or more lead from a block, along the edges that may be taken.
func waysFrom(next [][]int, from int, may func(a, b int) bool) []bool {
	found := make([]bool, len(next))
	work := []int{from}
	for len(work) > 0 {
		b := work[0]
		work = work[1:]
		for _, to := range next[b] {
			if !found[to] && may(b, to) {
				found[to] = true
				work = append(work, to)
			}
		}
	}
	return found
}

// told is what the chapter says of a graph.
type told struct {
	reached   []bool
	around    [][]bool // around[b][a]: a is around b
	near      []int
	back      [][2]int
	reducible bool
}

// read reads the chapter's words as they stand: it looks at each pair of blocks.
func read(g api.Graph) told {
	next, n := nextOf(g), len(g.Blocks)
	any := func(a, b int) bool { return true }
	x := told{reached: waysFrom(next, 0, any), around: make([][]bool, n), near: make([]int, n), reducible: true}
	x.reached[0] = true
	for b := range n {
		x.around[b] = make([]bool, n)
	}
	for a := range n {
		without := waysFrom(next, 0, func(from, to int) bool { return from != a && to != a })
		for b := range n {
			x.around[b][a] = x.reached[b] && (a == b || a == 0 || b != 0 && !without[b])
		}
	}
	isBack := make(map[[2]int]int)
	for b := range n {
		x.near[b] = x.nearest(b)
		for _, to := range next[b] {
			if x.reached[b] && x.around[b][to] {
				x.back = append(x.back, [2]int{b, to})
				isBack[[2]int{b, to}] = 1
			}
		}
	}
	for b := range n {
		forth := waysFrom(next, b, func(from, to int) bool { return isBack[[2]int{from, to}] == 0 })
		x.reducible = x.reducible && !(x.reached[b] && forth[b])
	}
	return x
}

func (x *told) nearest(b int) int {
	for a, is := range x.around[b] {
		if b == 0 || !is || a == b {
			continue
		}
		nearest := true
		for other, is := range x.around[b] {
			nearest = nearest && (!is || other == b || x.around[a][other])
		}
		if nearest {
			return a
		}
	}
	return -1
}

// becomesOne tells whether a graph's reached blocks become one, when edges from a block to itself are taken away, and blocks to which edges lead from one other block alone become one with that.
func becomesOne(g api.Graph, reached []bool) bool {
	into := map[int]map[int]int{} // from which blocks edges lead to each one that is left
	for b, is := range reached {
		if is {
			into[b] = map[int]int{}
		}
	}
	for b, next := range nextOf(g) {
		for _, to := range next {
			if reached[b] {
				into[to][b] = 1
			}
		}
	}
	for changed := true; changed; {
		changed = false
		for b, from := range into {
			delete(from, b)
			if b == 0 || len(from) != 1 {
				continue
			}
			for a := range from {
				for _, other := range into {
					if other[b] == 1 {
						delete(other, b)
						other[a] = 1
					}
				}
			}
			delete(into, b)
			changed = true
		}
	}
	return len(into) == 1
}

// whole holds all that is told of a graph against the chapter's words, and tells them.
func whole(t *testing.T, g api.Graph) told {
	t.Helper()
	x := read(g)
	near, back, reducible := loops.Dominators(g), loops.Back(g), loops.Reducible(g)
	if !slices.Equal(near, x.near) {
		t.Fatalf("%d: Dominators %d, want %d", nextOf(g), near, x.near)
	}
	if !same(back, x.back) {
		t.Fatalf("%d: Back %d, want %d", nextOf(g), back, x.back)
	}
	if reducible != x.reducible {
		t.Fatalf("%d: Reducible %v, want %v", nextOf(g), reducible, x.reducible)
	}
	if is := becomesOne(g, x.reached); is != reducible {
		t.Fatalf("%d: Reducible %v, becomes one %v", nextOf(g), reducible, is)
	}
	climbs(t, g, x, near)
	return x
}

// climbs goes from number to number (P11.1).
func climbs(t *testing.T, g api.Graph, x told, near []int) {
	t.Helper()
	for b, is := range x.reached {
		if !is {
			continue
		}
		met := make([]bool, len(near))
		for a := b; a >= 0 && !met[a]; a = near[a] {
			met[a] = true
		}
		if !met[0] || !slices.Equal(met, x.around[b]) {
			t.Fatalf("%d: from %d on %v, around it are %v", nextOf(g), b, met, x.around[b])
		}
	}
}

// cuts puts an EndReturn in the place of each reached block's end (P11.4).
func cuts(t *testing.T, g api.Graph, x told) {
	t.Helper()
	for b, is := range x.reached {
		if !is {
			continue
		}
		cut := api.Graph{Temps: g.Temps, Blocks: slices.Clone(g.Blocks)}
		cut.Blocks[b].End = api.End{Kind: api.EndReturn, A: -1}
		left := make([]bool, len(g.Blocks))
		for _, r := range thread.Reached(cut) {
			left[r] = true
		}
		near := loops.Dominators(g)
		for other, was := range x.reached {
			within := false
			for a := other; a >= 0 && was; a = near[a] {
				within = within || a == b && other != b
			}
			if was && left[other] == within || !was && left[other] {
				t.Fatalf("%d: %d is cut: %d is reached: %v", nextOf(g), b, other, left[other])
			}
		}
	}
}
