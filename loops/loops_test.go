package loops_test

import (
	"math"
	"reflect"
	"slices"
	"testing"

	"switchback/api"
	"switchback/graph"
	"switchback/loops"
)

// of is a graph whose blocks lead to others as told.
func of(l ...[]int) api.Graph {
	g := api.Graph{Temps: 1, Blocks: make([]api.Block, len(l))}
	for b, next := range l {
		g.Blocks[b].End = end(next)
	}
	return g
}

// end is an end that leads to some blocks, and to no others.
func end(next []int) api.End {
	switch len(next) {
	case 0:
		return api.End{Kind: api.EndReturn, A: -1}
	case 1:
		return api.End{Kind: api.EndJump, To: next[0]}
	case 2:
		return api.End{Kind: api.EndIf, Op: api.InsEq, To: next[0], Else: next[1]}
	case 3:
		return api.End{Kind: api.EndTable, To: next[0], Targets: slices.Clone(next[1:])}
	}
	e := api.End{Kind: api.EndSwitch, To: next[0]}
	for n, to := range next[1:] {
		e.Cases = append(e.Cases, api.Case{N: uint32(n), To: to})
	}
	return e
}

func same(a, b [][2]int) bool {
	return len(a) == len(b) && (len(a) == 0 || reflect.DeepEqual(a, b))
}

// TestShapes has small graphs, and what is to be told of each.
func TestShapes(t *testing.T) {
	for name, x := range map[string]struct {
		g         api.Graph
		near      []int
		back      [][2]int
		reducible bool
	}{
		"example 1":            {of([]int{1}, []int{2, 3}, []int{1}, nil), []int{-1, 0, 1, 1}, [][2]int{{2, 1}}, true},
		"example 2":            {of([]int{1, 2}, []int{2}, []int{1}), []int{-1, 0, 0}, nil, false},
		"example 3":            {of([]int{0}, []int{0}), []int{-1, -1}, [][2]int{{0, 0}}, true},
		"one block":            {of(nil), []int{-1}, nil, true},
		"one way":              {of([]int{1}, []int{2}, nil), []int{-1, 0, 1}, nil, true},
		"numbers that fall":    {of([]int{3}, nil, []int{1}, []int{2}), []int{-1, 2, 3, 0}, nil, true},
		"two ways":             {of([]int{1, 2}, []int{3}, []int{3}, nil), []int{-1, 0, 0, 0}, nil, true},
		"a ring of one":        {of([]int{1}, []int{1, 2}, nil), []int{-1, 0, 1}, [][2]int{{1, 1}}, true},
		"a ring of one alone":  {of([]int{1}, []int{1}), []int{-1, 0}, [][2]int{{1, 1}}, true},
		"back to the block 0":  {of([]int{1}, []int{0, 2}, []int{0}), []int{-1, 0, 1}, [][2]int{{1, 0}, {2, 0}}, true},
		"rings within rings":   {of([]int{1}, []int{2}, []int{3}, []int{1, 2, 3, 4}, nil), []int{-1, 0, 1, 2, 3}, [][2]int{{3, 1}, {3, 2}, {3, 3}}, true},
		"a ring entered twice": {of([]int{1, 3}, []int{2}, []int{3, 4}, []int{1}, nil), []int{-1, 0, 1, 0, 2}, nil, false},
		"entered, and a ring":  {of([]int{1, 3}, []int{2}, []int{2, 3}, []int{1}), []int{-1, 0, 1, 0}, [][2]int{{2, 2}}, false},
		"a ring not reached":   {of([]int{3}, []int{2}, []int{1, 3}, nil), []int{-1, -1, -1, 0}, nil, true},
		"two not reached":      {of(nil, []int{2, 0}, []int{1, 2}), []int{-1, -1, -1}, nil, true},
		"a table of one":       {of([]int{1, 1, 1}, []int{0, 0, 0, 0, 0}), []int{-1, 0}, [][2]int{{1, 0}}, true},
	} {
		if near := loops.Dominators(x.g); !slices.Equal(near, x.near) {
			t.Errorf("%s: Dominators %d, want %d", name, near, x.near)
		}
		if back := loops.Back(x.g); !same(back, x.back) {
			t.Errorf("%s: Back %d, want %d", name, back, x.back)
		}
		if is := loops.Reducible(x.g); is != x.reducible {
			t.Errorf("%s: Reducible %v", name, is)
		}
	}
}

// TestGraphsThatDoNotWalk has blocks missing, or too many, or ends that lead elsewhere, from blocks that are reached and others.
func TestGraphsThatDoNotWalk(t *testing.T) {
	many := of([]int{0})
	many.Blocks = append(many.Blocks, make([]api.Block, api.MaxBlocks)...)
	table := of([]int{0, 0, 0}, []int{1, 1, 1})
	table.Blocks[1].End.Targets[1] = 2
	for i, g := range []api.Graph{
		{},
		{Temps: 3, Params: []int{1}, Arrays: []api.Array{{Kind: api.ArrayParam}}},
		{Blocks: []api.Block{}},
		of([]int{1}),
		of([]int{-1}),
		of(nil, []int{2}),
		of(nil, []int{-1}),
		of([]int{0, 1}),
		of([]int{-1, 0}),
		of([]int{1, 2}, nil),
		of([]int{1, 0, -5}, nil),
		of([]int{1, 0, 1, 2, 0}, nil),
		of([]int{math.MaxInt}),
		of([]int{math.MinInt, 0}),
		table,
		many,
	} {
		if near, back, is := loops.Dominators(g), loops.Back(g), loops.Reducible(g); len(near) != 0 || len(back) != 0 || is {
			t.Errorf("%d: %d, %d, %v", i, near, back, is)
		}
	}
}

// TestWhatIsNotAsked has graphs that walk, though they may not be: what their instructions are, and what Next does not tell of, is not asked.
func TestWhatIsNotAsked(t *testing.T) {
	g := of([]int{1, 2}, nil, []int{0})
	g.Temps = -1
	g.Params = []int{9}
	g.Blocks[0].Code = []api.Ins{{Op: 77, D: -1}, {Op: api.InsCall, F: 5, Args: []int{8}}}
	g.Blocks[1].End = api.End{Kind: api.EndReturn, A: 9, To: 7, Else: -3, Targets: []int{8}, Cases: []api.Case{{To: 9}}}
	g.Blocks = append(g.Blocks, api.Block{End: api.End{To: 9}}, api.Block{End: api.End{Kind: 6, To: 1, Targets: []int{2}}}, api.Block{})
	g.Blocks[2].End = api.End{Kind: api.EndJump, To: 0, Else: -1}
	g.Blocks[0].End.Targets = []int{12}
	if near := loops.Dominators(g); !slices.Equal(near, []int{-1, 0, 0, -1, -1, -1}) {
		t.Errorf("Dominators %d", near)
	}
	if back := loops.Back(g); !same(back, [][2]int{{2, 0}}) {
		t.Errorf("Back %d", back)
	}
	if !loops.Reducible(g) {
		t.Error("not reducible")
	}
}

// TestMoreTargetsThanMayBe has ends with cases of one number, and with more targets than a module's may have.
func TestMoreTargetsThanMayBe(t *testing.T) {
	const n = 3 * api.MaxTable
	g := api.Graph{Blocks: make([]api.Block, n)}
	for b := range n {
		g.Blocks[0].End.Cases = append(g.Blocks[0].End.Cases, api.Case{To: b})
		g.Blocks[1].End.Targets = append(g.Blocks[1].End.Targets, n-1-b)
	}
	g.Blocks[0].End.Kind, g.Blocks[1].End.Kind = api.EndSwitch, api.EndTable
	near := loops.Dominators(g)
	for b, a := range near {
		if b > 0 && a != 0 || b == 0 && a != -1 {
			t.Fatalf("%d is the nearest one of %d", a, b)
		}
	}
	if len(near) != n || !same(loops.Back(g), [][2]int{{0, 0}, {1, 0}, {1, 1}}) || !loops.Reducible(g) {
		t.Errorf("%d, %d", len(near), loops.Back(g))
	}
}

// TestNothingIsKept has answers written over, and the same asked again.
func TestNothingIsKept(t *testing.T) {
	g := of([]int{1, 2}, []int{2, 0, 1, 1}, []int{2, 1, 0})
	ahead := graph.Copy(api.Module{Funcs: []api.Graph{g}}).Funcs[0]
	near, back := loops.Dominators(g), loops.Back(g)
	want := slices.Clone(back)
	for i := range near {
		near[i] = 7
	}
	for i := range back {
		back[i] = [2]int{7, 7}
	}
	loops.Reducible(g)
	if !reflect.DeepEqual(g, ahead) {
		t.Error("the graph is changed")
	}
	if near := loops.Dominators(g); !slices.Equal(near, []int{-1, 0, 0}) {
		t.Errorf("Dominators %d", near)
	}
	if back := loops.Back(g); !same(back, want) {
		t.Errorf("Back %d, want %d", back, want)
	}
}
