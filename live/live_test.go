package live_test

import (
	"fmt"
	"reflect"
	"slices"
	"testing"

	"switchback/api"
	"switchback/graph"
	"switchback/live"
)

// needs tells what is needed, and checks all that is promised of every answer of a graph that fits, but for what it tells.
func needs(t *testing.T, g api.Graph) [][]int {
	t.Helper()
	ahead := graph.Copy(api.Module{Funcs: []api.Graph{g}})
	l, e := live.Live(g)
	if e != api.OK || len(l) != len(g.Blocks) {
		t.Fatalf("%d: of %d blocks is told: %s", e, len(l), short(g))
	}
	if !reflect.DeepEqual(g, ahead.Funcs[0]) {
		t.Fatalf("the graph is changed: %s", short(g))
	}
	own := map[*int]int{}
	for _, one := range l {
		for i := range one {
			if one[i] < 0 || one[i] >= g.Temps || i > 0 && one[i] <= one[i-1] {
				t.Fatalf("not rising: %d: %s", one, short(g))
			}
		}
		one = one[:cap(one)]
		for i := range one {
			if own[&one[i]]++; own[&one[i]] > 1 {
				t.Fatalf("shared memory: %s", short(g))
			}
		}
	}
	return l
}

// short is how a failure tells of something: great graphs not whole.
func short(v any) string {
	return fmt.Sprintf("%.3000s", fmt.Sprintf("%+v", v))
}

// same tells whether two answers are.
func same(a, b [][]int) bool {
	return slices.EqualFunc(a, b, slices.Equal)
}

func to(b int) api.End { return api.End{Kind: api.EndJump, To: b} }

func back(a int) api.End { return api.End{Kind: api.EndReturn, A: a} }

// either goes to one block, if two temps are the same, else to another one.
func either(a, b, yes, no int) api.End {
	return api.End{Kind: api.EndIf, Op: api.InsEq, A: a, B: b, To: yes, Else: no}
}

func choose(a, other int, tos ...int) api.End {
	e := api.End{Kind: api.EndSwitch, A: a, To: other}
	for n, b := range tos {
		e.Cases = append(e.Cases, api.Case{N: uint32(n), To: b})
	}
	return e
}

func table(a, other int, tos ...int) api.End {
	return api.End{Kind: api.EndTable, A: a, To: other, Targets: tos}
}

func block(end api.End, code ...api.Ins) api.Block {
	return api.Block{Code: code, End: end}
}

func set(d int) api.Ins { return api.Ins{Op: api.InsConst, D: d} }

func use(a int) api.Ins { return api.Ins{Op: api.InsPutc, A: a} }

func add(d, a, b int) api.Ins { return api.Ins{Op: api.InsAdd, D: d, A: a, B: b} }

func call(d int, args ...int) api.Ins { return api.Ins{Op: api.InsCall, D: d, Args: args} }

// of is a graph of so many temps.
func of(temps int, blocks ...api.Block) api.Graph {
	return api.Graph{Temps: temps, Blocks: blocks}
}

// TestShapes has small graphs, and what is needed at the beginning of each block.
func TestShapes(t *testing.T) {
	none := []int(nil)
	for name, x := range map[string]struct {
		g    api.Graph
		want [][]int
	}{
		"example 1":                      {of(3, block(back(0), add(0, 1, 2))), [][]int{{1, 2}}},
		"example 2":                      {of(3, block(to(1), set(0)), block(either(0, 2, 1, 2), add(0, 0, 1)), block(back(1))), [][]int{{1, 2}, {0, 1, 2}, {1}}},
		"no temps":                       {of(0, block(to(1)), block(back(-1)), block(to(0))), [][]int{none, none, none}},
		"nothing is used":                {of(3, block(to(1), set(0)), block(back(-1), set(1))), [][]int{none, none}},
		"a return of nothing":            {of(3, block(back(-1))), [][]int{none}},
		"a return of the temp 0":         {of(3, block(back(0))), [][]int{{0}}},
		"used and set at once":           {of(3, block(back(-1), add(1, 1, 1))), [][]int{{1}}},
		"used, then set":                 {of(3, block(back(-1), use(1), set(1))), [][]int{{1}}},
		"set, then used":                 {of(3, block(back(1), set(1), use(1))), [][]int{none}},
		"set, used by the end":           {of(3, block(either(1, 2, 0, 0), set(1), set(2))), [][]int{none}},
		"set by another block":           {of(3, block(to(1), set(1)), block(back(1))), [][]int{none, {1}}},
		"set on one way":                 {of(3, block(either(0, 0, 1, 2)), block(to(2), set(1)), block(back(1))), [][]int{{0, 1}, none, {1}}},
		"set on both ways":               {of(3, block(either(0, 0, 1, 2)), block(to(3), set(1)), block(to(3), set(1)), block(back(1))), [][]int{{0}, none, none, {1}}},
		"used on one way":                {of(3, block(either(0, 0, 1, 2)), block(back(-1)), block(back(2))), [][]int{{0, 2}, none, {2}}},
		"a call of nothing":              {of(3, block(back(-1), call(-1))), [][]int{none}},
		"a call that sets":               {of(3, block(back(0), call(0))), [][]int{none}},
		"a call that sets nothing":       {of(3, block(back(0), call(-1))), [][]int{{0}}},
		"a call that uses what it sets":  {of(5, block(back(0), call(0, 0, 4, 3, 4))), [][]int{{0, 3, 4}}},
		"arguments set ahead":            {of(5, block(back(-1), set(4), call(-1, 1, 4))), [][]int{{1}}},
		"an exit does not stop":          {of(3, block(back(2), api.Ins{Op: api.InsExit, A: 1})), [][]int{{1, 2}}},
		"to itself":                      {of(3, block(to(0))), [][]int{none}},
		"to itself, set behind use":      {of(3, block(to(0), use(1), set(1))), [][]int{{1}}},
		"to itself, set ahead of use":    {of(3, block(either(0, 1, 0, 1), set(1), use(1)), block(back(2))), [][]int{{0, 2}, {2}}},
		"a ring":                         {of(4, block(to(1), set(0)), block(either(0, 1, 2, 3)), block(to(1), add(0, 0, 2)), block(back(3))), [][]int{{1, 2, 3}, {0, 1, 2, 3}, {0, 1, 2, 3}, {3}}},
		"a ring entered twice":           {of(4, block(either(0, 0, 1, 2)), block(to(2), use(1)), block(to(1), set(1), use(3))), [][]int{{0, 1, 3}, {1, 3}, {3}}},
		"a ring never left":              {of(3, block(to(1), use(0)), block(to(2)), block(to(1))), [][]int{{0}, none, none}},
		"a switch":                       {of(6, block(choose(5, 1, 2, 3, 2)), block(back(1)), block(back(2)), block(back(3)), block(back(4))), [][]int{{1, 2, 3, 5}, {1}, {2}, {3}, {4}}},
		"a switch of no cases":           {of(3, block(choose(0, 1)), block(back(1))), [][]int{{0, 1}, {1}}},
		"a switch on what was set":       {of(3, block(choose(0, 1, 1), set(0)), block(back(0))), [][]int{none, {0}}},
		"a table":                        {of(6, block(table(5, 1, 2, 3, 2)), block(back(1)), block(back(2)), block(back(3)), block(back(4))), [][]int{{1, 2, 3, 5}, {1}, {2}, {3}, {4}}},
		"not reached":                    {of(4, block(back(0)), block(to(2), use(1)), block(to(0), use(2))), [][]int{{0}, {0, 1, 2}, {0, 2}}},
		"reached by none, and sets":      {of(3, block(back(-1)), block(back(1), set(1)), block(to(1), use(1))), [][]int{none, none, {1}}},
		"a parameter":                    {api.Graph{Params: []int{1, 0}, Temps: 3, Blocks: []api.Block{block(back(1), use(2))}}, [][]int{{1, 2}}},
		"fields that are not there":      {of(3, block(api.End{Kind: api.EndJump, A: 1, B: 2, To: 1}, api.Ins{Op: api.InsConst, D: 0, A: 1, B: 2, Args: []int{1, 2}}), block(back(0))), [][]int{none, {0}}},
		"no D":                           {of(3, block(back(0), api.Ins{Op: api.InsStore, D: 0, A: 1}, api.Ins{Op: api.InsPut, D: 0, A: 2, B: 1}, api.Ins{Op: api.InsPutc, D: 0}, api.Ins{Op: api.InsExit, D: 0})), [][]int{{0, 1, 2}}},
		"temps of unlike words, rising":  {of(200, block(to(1), use(130), use(1)), block(back(63), use(64), use(199), set(1), use(128), use(127))), [][]int{{1, 63, 64, 127, 128, 130, 199}, {63, 64, 127, 128, 199}}},
		"back, and back again":           {of(3, block(to(2)), block(back(0)), block(to(3)), block(to(1))), [][]int{{0}, {0}, {0}, {0}}},
		"one sets what the other passes": {of(3, block(to(1)), block(either(0, 0, 2, 0), set(2)), block(back(1), use(2))), [][]int{{0, 1}, {0, 1}, {1, 2}}},
	} {
		t.Run(name, func(t *testing.T) {
			if got := needs(t, x.g); !same(got, x.want) {
				t.Errorf("%d, want %d", got, x.want)
			}
			whole(t, x.g)
		})
	}
}

// TestOps has each instruction: what it uses and what it sets, of the temps 1 (A), 2 (B), 3 and 4 (Args) and 0 (D).
func TestOps(t *testing.T) {
	for op := api.InsConst; op <= api.InsExit; op++ {
		i := api.Ins{Op: op, D: 0, A: 1, B: 2, Args: []int{3, 4}}
		var want []int
		switch op {
		case api.InsConst, api.InsLoad, api.InsGetc:
		case api.InsMove, api.InsNeg, api.InsNot, api.InsLow, api.InsGet:
			want = []int{1}
		case api.InsStore, api.InsPutc, api.InsExit:
			want = []int{0, 1}
		case api.InsPut:
			want = []int{0, 1, 2}
		case api.InsCall:
			want = []int{3, 4}
		default:
			want = []int{1, 2}
		}
		if got := needs(t, of(5, block(back(0), i))); !same(got, [][]int{want}) {
			t.Errorf("%d: %d, want %d", op, got, want)
		}
	}
}

// TestTwice has answers that share no memory.
func TestTwice(t *testing.T) {
	g := of(3, block(to(0), use(1), use(2)))
	l, other := needs(t, g), needs(t, g)
	l[0][0], l[0] = 7, append(l[0], 8)
	if !same(other, [][]int{{1, 2}}) || !same(needs(t, g), other) {
		t.Errorf("%d", other)
	}
}
