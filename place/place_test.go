package place_test

import (
	"fmt"
	"reflect"
	"slices"
	"testing"

	"switchback/api"
	"switchback/graph"
	"switchback/place"
	"switchback/sample"
	"switchback/thread"
)

// short is how a failure tells of something: great graphs not whole.
func short(v any) string {
	return fmt.Sprintf("%.3000s", fmt.Sprintf("%+v", v))
}

// of is a graph whose blocks lead to others as told; each has an instruction that no other one has.
func of(l ...[]int) api.Graph {
	g := api.Graph{Temps: 1, Blocks: make([]api.Block, len(l))}
	for b, next := range l {
		g.Blocks[b] = api.Block{Code: []api.Ins{{Op: api.InsConst, N: uint32(b)}}, End: end(next)}
	}
	return g
}

// end is an end that leads to some blocks, and to no others: a return, a jump, an if, a table or a switch, by how many there are.
func end(next []int) api.End {
	switch len(next) {
	case 0:
		return back(-1)
	case 1:
		return to(next[0])
	case 2:
		return either(next[0], next[1])
	case 3:
		return table(next[0], next[1:]...)
	}
	return choose(next[0], next[1:]...)
}

func back(a int) api.End { return api.End{Kind: api.EndReturn, A: a} }

func to(b int) api.End { return api.End{Kind: api.EndJump, To: b} }

func either(yes, no int) api.End {
	return api.End{Kind: api.EndIf, Op: api.InsNe, To: yes, Else: no}
}

func table(other int, tos ...int) api.End {
	return api.End{Kind: api.EndTable, To: other, Targets: slices.Clone(tos)}
}

func choose(other int, tos ...int) api.End {
	e := api.End{Kind: api.EndSwitch, To: other}
	for n, b := range tos {
		e.Cases = append(e.Cases, api.Case{N: uint32(n), To: b})
	}
	return e
}

// ended is a graph whose blocks end as told, and are empty.
func ended(ends ...api.End) api.Graph {
	g := api.Graph{Temps: 1}
	for _, e := range ends {
		g.Blocks = append(g.Blocks, api.Block{End: e})
	}
	return g
}

// own is a copy of a graph that shares no memory with it.
func own(g api.Graph) api.Graph {
	return graph.Copy(api.Module{Funcs: []api.Graph{g}}).Funcs[0]
}

// reading is what the chapter's words ask of a graph: by which blocks each is led to, and which are reached.
type reading struct {
	g       api.Graph
	from    [][]int
	reached []int
}

func read(g api.Graph) reading {
	r := reading{g, make([][]int, len(g.Blocks)), thread.Reached(g)}
	for b := range g.Blocks {
		for _, to := range graph.Next(g, b) {
			r.from[to] = append(r.from[to], b)
		}
	}
	return r
}

// alone tells whether no block but a leads to b.
func (r reading) alone(a, b int) bool {
	for _, other := range r.from[b] {
		if other != a {
			return false
		}
	}
	return true
}

// behind tells which blocks may stand directly behind a reached one: none, if any may, or none must.
func (r reading) behind(a int) []int {
	e := r.g.Blocks[a].End
	switch e.Kind {
	case api.EndJump:
		if b := e.To; b != a && b != 0 && r.alone(a, b) {
			return []int{b}
		}
	case api.EndIf:
		b, c := e.To, e.Else
		if b != c && b != a && c != a && b != 0 && c != 0 && (r.alone(a, b) || r.alone(a, c)) {
			return []int{b, c}
		}
	}
	return nil
}

// placed tells the order of a graph's blocks, and checks all that is promised of it.
func placed(t *testing.T, g api.Graph) []int {
	t.Helper()
	ahead := own(g)
	order, e := place.Place(g)
	if e != api.OK {
		t.Fatalf("%d: %s", e, short(g))
	}
	if !reflect.DeepEqual(g, ahead) {
		t.Fatal("the graph is changed")
	}
	at := make([]int, len(g.Blocks))
	for i, b := range order {
		if b < 0 || b >= len(at) || at[b] != 0 || i == 0 && b != 0 {
			t.Fatalf("%d is no order: %s", order, short(g))
		}
		at[b] = i
	}
	if len(order) != len(at) || at[0] != 0 {
		t.Fatalf("%d is no order: %s", order, short(g))
	}
	r := read(g)
	for _, a := range r.reached {
		may := r.behind(a)
		if len(may) == 0 {
			continue
		}
		if at[a] == len(order)-1 || !slices.Contains(may, order[at[a]+1]) {
			t.Fatalf("of %d none is directly behind %d in %s: %s", may, a, short(order), short(g))
		}
	}
	kept := slices.Clone(order)
	again, _ := place.Place(g)
	if !slices.Equal(again, kept) {
		t.Fatalf("%s, and once more %s: %s", short(order), short(again), short(g))
	}
	clear(again[:cap(again)])
	if !slices.Equal(order, kept) {
		t.Fatalf("two answers share memory: %s", short(g))
	}
	return order
}

// turned is the end that a reading of the chapter makes of one: each block's number is its place.
func turned(e api.End, at []int) api.End {
	switch e.Kind {
	case api.EndJump:
		e.To = at[e.To]
	case api.EndIf:
		e.To, e.Else = at[e.To], at[e.Else]
	case api.EndSwitch:
		e.To = at[e.To]
		e.Cases = slices.Clone(e.Cases)
		for i := range e.Cases {
			e.Cases[i].To = at[e.Cases[i].To]
		}
	case api.EndTable:
		e.To = at[e.To]
		e.Targets = slices.Clone(e.Targets)
		for i := range e.Targets {
			e.Targets[i] = at[e.Targets[i]]
		}
	}
	return e
}

// laid lays a graph in an order, and checks all that is promised of that, and of the way back.
func laid(t *testing.T, g api.Graph, order []int) api.Graph {
	t.Helper()
	ahead, orderAhead := own(g), slices.Clone(order)
	r, e := place.Reorder(g, order)
	if e != api.OK {
		t.Fatalf("%d: %s, %s", e, short(order), short(g))
	}
	if !reflect.DeepEqual(g, ahead) || !slices.Equal(order, orderAhead) {
		t.Fatal("what was handed in is changed")
	}
	at := make([]int, len(order))
	for i, b := range order {
		at[b] = i
	}
	want := g
	want.Blocks = make([]api.Block, len(order))
	for i, b := range order {
		want.Blocks[i] = api.Block{Code: g.Blocks[b].Code, End: turned(g.Blocks[b].End, at)}
	}
	if !reflect.DeepEqual(r, want) {
		t.Fatalf("%s:\n%s\nwant\n%s\nof\n%s", short(order), short(r), short(want), short(g))
	}
	if sample.Shared(api.Module{Funcs: []api.Graph{g}}, api.Module{Funcs: []api.Graph{r}}) {
		t.Fatalf("shared memory: %s", short(g))
	}
	if again, e := place.Reorder(r, at); e != api.OK || !reflect.DeepEqual(again, g) {
		t.Fatalf("%s and back: %d\n%s\n%s", short(order), e, short(again), short(g))
	}
	return r
}

// edges are the pairs of blocks of which the second one is directly behind the first one.
func edges(order []int) map[[2]int]int {
	m := map[[2]int]int{}
	for i := range order[1:] {
		m[[2]int{order[i], order[i+1]}] = 1
	}
	return m
}
