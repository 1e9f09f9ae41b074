package live_test

import (
	"math/rand"
	"slices"
	"testing"

	"switchback/api"
	"switchback/graph"
)

const (
	most = api.MaxBlocks
	last = most - 1
)

// great is a graph of as many blocks as there may be, which lead to others as told, and use and set some of so many temps.
func great(r *rand.Rand, all int, next func(b int) []int) api.Graph {
	g := of(all, make([]api.Block, most)...)
	for b := range g.Blocks {
		if r.Intn(200) == 0 {
			g.Blocks[b].Code = append(g.Blocks[b].Code, use(r.Intn(all)))
		}
		if r.Intn(50) == 0 {
			g.Blocks[b].Code = append(g.Blocks[b].Code, set(r.Intn(all)))
		}
		g.Blocks[b].End = back(-1)
		if tos := next(b); len(tos) > 0 {
			g.Blocks[b].End = table(r.Intn(all), tos[0], tos...)
			if len(tos) == 1 {
				g.Blocks[b].End = to(tos[0])
			}
		}
	}
	return g
}

// found tells temp by temp, and for that block by block, from those that use it backwards, whether it is needed there.
func found(g api.Graph) [][]int {
	ahead := make([][]int, len(g.Blocks))
	for b := range g.Blocks {
		for _, to := range graph.Next(g, b) {
			ahead[to] = append(ahead[to], b)
		}
	}
	needed := make([][]int, len(g.Blocks))
	for temp := range g.Temps {
		var work []int
		met, sets := make([]bool, len(g.Blocks)), make([]bool, len(g.Blocks))
		for b := range g.Blocks {
			met[b], sets[b] = touches(&g.Blocks[b], temp)
			if met[b] {
				work = append(work, b)
			}
		}
		for ; len(work) > 0; work = work[1:] {
			for _, a := range ahead[work[0]] {
				if !met[a] && !sets[a] {
					met[a] = true
					work = append(work, a)
				}
			}
		}
		for b, is := range met {
			if is {
				needed[b] = append(needed[b], temp)
			}
		}
	}
	return needed
}

// within leaves only blocks that there are.
func within(tos ...int) []int {
	return slices.DeleteFunc(tos, func(to int) bool { return to < 0 || to >= most })
}

func TestAsManyBlocksAsMayBe(t *testing.T) {
	shuffled := append([]int{0}, rand.New(rand.NewSource(1)).Perm(last)...)
	at := make([]int, most)
	for i := range shuffled {
		if i > 0 {
			shuffled[i]++
		}
		at[shuffled[i]] = i
	}
	for name, next := range map[string]func(r *rand.Rand, b int) []int{
		"one way":                 func(_ *rand.Rand, b int) []int { return within(b + 1) },
		"one way backwards":       func(_ *rand.Rand, b int) []int { return within(b - 1) },
		"one way, mixed up":       func(_ *rand.Rand, b int) []int { return []int{shuffled[(at[b]+1)%most]} },
		"one ring":                func(_ *rand.Rand, b int) []int { return []int{(b + 1) % most} },
		"each to itself":          func(_ *rand.Rand, b int) []int { return within(b, b+1) },
		"each back by one":        func(_ *rand.Rand, b int) []int { return within(b+1, b-1) },
		"each back to the middle": func(_ *rand.Rand, b int) []int { return within(b+1, b/2) },
		"over one":                func(_ *rand.Rand, b int) []int { return within(b+1, b+2) },
		"all to one":              func(_ *rand.Rand, b int) []int { return within(last, b+1) },
		"anywhere":                func(r *rand.Rand, b int) []int { return []int{r.Intn(most), r.Intn(most)} },
		"anywhere or nowhere":     func(r *rand.Rand, b int) []int { return within(r.Intn(2*most), r.Intn(2*most)) },
		"all to the first twenty": func(r *rand.Rand, b int) []int { return within(r.Perm(20)...) },
	} {
		t.Run(name, func(t *testing.T) {
			t.Parallel()
			r := rand.New(rand.NewSource(2))
			g := great(r, 130, func(b int) []int { return next(r, b) })
			if !same(needs(t, g), found(g)) {
				t.Error("what is told is not what is found")
			}
		})
	}
}

// TestAsManyTempsAsMayBe has a row of blocks, the last one of which uses all temps. Each of the first ones sets one.
func TestAsManyTempsAsMayBe(t *testing.T) {
	const all, row = api.MaxTemps, 400
	g := of(all, make([]api.Block, row)...)
	for b := range g.Blocks {
		g.Blocks[b] = block(to(b+1), set(b))
	}
	var uses []api.Ins
	for temp := range all {
		uses = append(uses, use(temp))
	}
	g.Blocks[row-1] = block(back(all-1), uses...)
	for b, l := range needs(t, g) {
		if len(l) != all-(row-1)+b || b < row-1 && slices.Contains(l, b) || l[len(l)-1] != all-1 {
			t.Fatalf("%d temps are needed at %d", len(l), b)
		}
	}
}

// TestOneTempOfMany has graphs that use one temp alone, mostly one that stands beside the end of a word.
func TestOneTempOfMany(t *testing.T) {
	for temp := range api.MaxTemps {
		if temp%500 > 0 && temp%64 > 1 && temp%64 < 62 {
			continue
		}
		g := of(api.MaxTemps, block(to(1)), block(back(temp)))
		if got := needs(t, g); !same(got, [][]int{{temp}, {temp}}) {
			t.Fatalf("%d: %d", temp, got)
		}
		g.Temps = temp + 1
		if got := needs(t, g); !same(got, [][]int{{temp}, {temp}}) {
			t.Fatalf("%d, the last one: %d", temp, got)
		}
	}
}
