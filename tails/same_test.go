package tails_test

import (
	"fmt"
	"testing"

	"switchback/api"
	"switchback/graph"
)

// around is a module that may have many sorts of instructions: the function 0 has two parameters and an array, the function 1 as well.
func around(blocks []api.Block) api.Module {
	params := []api.Array{{Kind: api.ArrayParam}, {Kind: api.ArrayGlobal, N: 0}, {Kind: api.ArrayLocal, N: 2}}
	other := api.Graph{Temps: 3, Params: []int{2, 1}, Arrays: params, Blocks: []api.Block{block(back(2), "p")}}
	another := api.Graph{Temps: 2, Blocks: []api.Block{block(back(1), "p")}}
	m := api.Module{Globals: []uint32{1, 2, 3}, Arrays: []int{2}, Funcs: []api.Graph{{Temps: 3, Arrays: params[1:], Blocks: blocks}, other, other, another}}
	return graph.Copy(m)
}

// unlikeCodes are instructions, any two of which differ in something.
func unlikeCodes() []api.Ins {
	l := []api.Ins{
		{Op: api.InsConst, D: 1, N: 5}, {Op: api.InsConst, D: 2, N: 5}, {Op: api.InsConst, D: 1, N: 1<<32 - 5}, {Op: api.InsConst},
		{Op: api.InsLoad, D: 1}, {Op: api.InsLoad, D: 1, F: 2}, {Op: api.InsLoad, D: 2, F: 2},
		{Op: api.InsStore, A: 1}, {Op: api.InsStore, A: 1, F: 2}, {Op: api.InsStore, A: 2, F: 2},
		{Op: api.InsGetc}, {Op: api.InsGetc, D: 1}, {Op: api.InsPutc}, {Op: api.InsPutc, A: 1}, {Op: api.InsExit}, {Op: api.InsExit, A: 1},
		{Op: api.InsCall, D: -1, F: 3}, {Op: api.InsCall, D: 0, F: 3}, {Op: api.InsCall, D: 1, F: 3},
	}
	for op := api.InsMove; op <= api.InsLow; op++ {
		l = append(l, api.Ins{Op: op, D: 1}, api.Ins{Op: op, A: 1})
	}
	for op := api.InsAdd; op <= api.InsLeU; op++ {
		l = append(l, api.Ins{Op: op}, api.Ins{Op: op, D: 1}, api.Ins{Op: op, A: 1}, api.Ins{Op: op, B: 1})
	}
	for n := range 2 {
		l = append(l, api.Ins{Op: api.InsGet, D: 1, F: n}, api.Ins{Op: api.InsGet, A: 1, F: n}, api.Ins{Op: api.InsPut, B: 1, F: n}, api.Ins{Op: api.InsPut, A: 1, F: n})
		for _, args := range [][]int{{0, 0}, {0, 1}, {1, 0}, {1, 1}, {2, 1}} {
			l = append(l, api.Ins{Op: api.InsCall, F: 1 + n, Args: args, Arrs: []int{0}}, api.Ins{Op: api.InsCall, F: 1 + n, Args: args, Arrs: []int{1}})
		}
	}
	return l
}

// unlikeEnds are ends, any two of which differ in something; they lead to the blocks 1 and 2.
func unlikeEnds() []api.End {
	l := []api.End{back(-1), back(0), back(1), to(1), to(2), choose(1), choose(2), table(1, 1), table(2, 1), table(1, 2), table(1, 1, 2), table(1, 2, 1), table(1, 2, 1, 1)}
	for op := api.InsEq; op <= api.InsLeU; op++ {
		l = append(l, api.End{Kind: api.EndIf, Op: op, To: 1, Else: 2}, api.End{Kind: api.EndIf, Op: op, To: 2, Else: 1}, api.End{Kind: api.EndIf, Op: op, To: 1, Else: 2, A: 1}, api.End{Kind: api.EndIf, Op: op, To: 1, Else: 2, B: 1})
	}
	for _, cases := range [][]api.Case{{{N: 5, To: 1}}, {{N: 5, To: 2}}, {{N: 6, To: 1}}, {{N: 5, To: 1}, {N: 6, To: 2}}, {{N: 6, To: 2}, {N: 5, To: 1}}, {{N: 6, To: 1}, {N: 5, To: 2}}, {{N: 5, To: 1}, {N: 6, To: 2}, {N: 7, To: 2}}} {
		l = append(l, api.End{Kind: api.EndSwitch, To: 1, Cases: cases}, api.End{Kind: api.EndSwitch, To: 2, Cases: cases}, api.End{Kind: api.EndSwitch, A: 1, To: 2, Cases: cases})
	}
	return append(l, api.End{Kind: api.EndTable, A: 1, To: 1, Targets: []int{1}}, api.End{Kind: api.EndTable, N: 1, To: 1, Targets: []int{1}})
}

// TestWhatIsTheSame has all unlike blocks twice: of those that are the same one is left, and no other one becomes one with it. Lists that have nothing in them are nil in the one and empty in the other.
func TestWhatIsTheSame(t *testing.T) {
	blocks := []api.Block{block(to(0), "g"), block(back(0), "nppppn"), block(back(2), "nnppnn")}
	for _, i := range unlikeCodes() {
		blocks = append(blocks, api.Block{Code: []api.Ins{i}, End: back(-1)})
	}
	for _, e := range unlikeEnds() {
		blocks = append(blocks, api.Block{End: e})
	}
	want := map[string]int{}
	for _, b := range blocks {
		want[fmt.Sprint(b)]++
	}
	more := around(blocks).Funcs[0].Blocks
	for b := range more {
		filled(&more[b])
	}
	n := len(blocks)
	r := means(t, around(append(blocks, more...)), 1000, "", "abc")
	got := r.Funcs[0].Blocks
	for _, b := range got {
		if want[fmt.Sprint(b)] != 1 {
			t.Errorf("%+v", b)
		}
	}
	if len(want) != n || len(got) != n {
		t.Errorf("%d blocks, want %d, of which %d are unlike", len(got), n, len(want))
	}
}

// filled puts an empty list where there is none.
func filled(b *api.Block) {
	for i := range b.Code {
		own := &b.Code[i]
		if own.Args == nil {
			own.Args = []int{}
		}
		if own.Arrs == nil {
			own.Arrs = []int{}
		}
	}
	if b.Code == nil {
		b.Code = []api.Ins{}
	}
	if b.End.Cases == nil {
		b.End.Cases = []api.Case{}
	}
	if b.End.Targets == nil {
		b.End.Targets = []int{}
	}
}

// TestEachFunction has the second function's blocks joined as well as the first one's; what is the same in two functions stays in both.
func TestEachFunction(t *testing.T) {
	blocks := []api.Block{block(either(1, 2), "g"), block(back(0), "np"), block(back(0), "gp")}
	m := around(blocks)
	m.Funcs[1].Blocks = graph.Copy(one(blocks...)).Funcs[0].Blocks
	m.Funcs[0].Blocks[1].Code[0] = api.Ins{Op: api.InsCall, F: 1, Args: []int{1, 2}, Arrs: []int{1}}
	r := means(t, m, 100, "", "\x00", "\x00\x00", "\x00b")
	for f, left := range []int{4, 4, 1, 1} {
		if n := len(r.Funcs[f].Blocks); n != left {
			t.Errorf("%d: %s", f, short(r.Funcs[f]))
		}
	}
}

// TestCallsTwice has instructions with lists that stand in two blocks: those have memory of their own.
func TestCallsTwice(t *testing.T) {
	call := api.Ins{Op: api.InsCall, F: 1, Args: []int{1, 2}, Arrs: []int{1}}
	blocks := []api.Block{{Code: []api.Ins{call}, End: either(1, 2)}, {Code: []api.Ins{call, call}, End: to(2)}, {Code: []api.Ins{call, call, call}, End: back(0)}}
	means(t, around(blocks), 100, "", "\x00", "\x00\x00", "\x00b")
}
