package thread_test

import (
	"math"
	"math/rand"
	"slices"
	"testing"

	"switchback/api"
	"switchback/graph"
	"switchback/thread"
)

// ways is a graph whose blocks lead to some numbers, whatever these are.
func ways(l ...[]int) api.Graph {
	var g api.Graph
	for _, next := range l {
		e := back(0)
		if len(next) > 0 {
			e = choose(next[0], next[1:]...)
		}
		g.Blocks = append(g.Blocks, api.Block{End: e})
	}
	return g
}

func TestReached(t *testing.T) {
	for i, x := range []struct {
		g    api.Graph
		want []int
	}{
		{api.Graph{}, nil},
		{ways(nil), []int{0}},
		{ways([]int{0}), []int{0}},
		{ways(nil, []int{0}, []int{1}), []int{0}},
		{ways([]int{2}, nil, []int{4}, nil, []int{2, 0}), []int{0, 2, 4}},
		{ways([]int{4, 3}, nil, nil, []int{1}, []int{2}), []int{0, 1, 2, 3, 4}},
		{ways([]int{3, 1, -1, math.MinInt, math.MaxInt}, nil, nil), []int{0, 1}},
		{api.Graph{Blocks: []api.Block{{End: either(2, 1)}, {}, {End: table(0, 4)}, {End: to(0)}, {End: to(9)}}}, []int{0, 1, 2, 4}},
		{api.Graph{Blocks: []api.Block{{End: api.End{Kind: 6, To: 1}}, {}}}, []int{0}},
		{api.Graph{Blocks: []api.Block{{End: api.End{Kind: api.EndJump, To: 1, Else: 2}}, {}, {}}}, []int{0, 1}},
	} {
		if got := thread.Reached(x.g); !slices.Equal(got, x.want) {
			t.Errorf("%d: %d, want %d", i, got, x.want)
		}
	}
}

// TestReachedAgain holds Reached against ways that become one longer, step by step.
func TestReachedAgain(t *testing.T) {
	r := rand.New(rand.NewSource(1))
	for range 20000 {
		n := 1 + r.Intn(12)
		l := make([][]int, n)
		for b := range l {
			for range r.Intn(4) {
				l[b] = append(l[b], r.Intn(n+4)-2)
			}
		}
		g := ways(l...)
		is := make([]bool, n)
		is[0] = true
		for range n {
			for b, next := range l {
				for _, to := range next {
					if is[b] && to >= 0 && to < n {
						is[to] = true
					}
				}
			}
		}
		var want []int
		for b := range is {
			if is[b] {
				want = append(want, b)
			}
		}
		ahead := graph.Copy(api.Module{Funcs: []api.Graph{g}})
		if got := thread.Reached(g); !slices.Equal(got, want) {
			t.Fatalf("%v: %d, want %d", l, got, want)
		}
		if !slices.EqualFunc(g.Blocks, ahead.Funcs[0].Blocks, func(a, b api.Block) bool { return slices.Equal(a.End.Cases, b.End.Cases) }) {
			t.Fatal("the graph is changed")
		}
	}
}
