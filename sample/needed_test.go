package sample_test

import (
	"reflect"
	"slices"
	"testing"

	"switchback/api"
	"switchback/sample"
	"switchback/temps"
)

// TestTempsTwice holds the two readings of what instructions and ends use and set against each other.
func TestTempsTwice(t *testing.T) {
	for op := api.InsConst; op <= api.InsExit; op++ {
		for _, d := range []int{3, -1} {
			i := api.Ins{Op: op, D: d, A: 4, B: 5, F: 6, Args: []int{7, 8, 7}, Arrs: []int{9}}
			if d == -1 && op != api.InsCall {
				continue
			}
			uses, sets := sample.Temps(&i)
			if other := slices.Collect(temps.Used(&i)); !slices.Equal(uses, other) {
				t.Errorf("%d uses %d or %d", op, len(uses), len(other))
			}
			if temps.Sets(&i) != (sets != nil) || sets != nil && sets != &i.D {
				t.Errorf("%d sets its D: %v", op, temps.Sets(&i))
			}
		}
	}
	for kind := api.EndJump; kind <= api.EndReturn; kind++ {
		for _, a := range []int{0, 4, -1} {
			e := api.End{Kind: kind, A: a, B: 5}
			if uses, other := sample.EndTemps(&e), slices.Collect(temps.UsedByEnd(&e)); !slices.Equal(uses, other) {
				t.Errorf("%d with %d uses %d or %d", kind, a, len(uses), len(other))
			}
		}
	}
}

func TestRename(t *testing.T) {
	g := api.Graph{Params: []int{1, 0}, Temps: 9, Blocks: []api.Block{
		{Code: []api.Ins{
			{Op: api.InsConst, D: 1, N: 1},
			{Op: api.InsAdd, D: 1, A: 2, B: 1},
			{Op: api.InsPut, F: 1, A: 3, B: 1},
			{Op: api.InsCall, D: -1, F: 1, Args: []int{1, 2}, Arrs: []int{1}},
			{Op: api.InsCall, D: 2},
		}, End: api.End{Kind: api.EndIf, Op: api.InsEq, A: 1, B: 2}},
		{End: api.End{Kind: api.EndTable, A: 1, N: 1, Targets: []int{1}, To: 1}},
		{End: api.End{Kind: api.EndReturn, A: -1}},
		{End: api.End{Kind: api.EndReturn, A: 1}},
	}}
	want := api.Graph{Params: []int{11, 10}, Temps: 9, Blocks: []api.Block{
		{Code: []api.Ins{
			{Op: api.InsConst, D: 11, N: 1},
			{Op: api.InsAdd, D: 11, A: 12, B: 11},
			{Op: api.InsPut, F: 1, A: 13, B: 11},
			{Op: api.InsCall, D: -1, F: 1, Args: []int{11, 12}, Arrs: []int{1}},
			{Op: api.InsCall, D: 12},
		}, End: api.End{Kind: api.EndIf, Op: api.InsEq, A: 11, B: 12}},
		{End: api.End{Kind: api.EndTable, A: 11, N: 1, Targets: []int{1}, To: 1}},
		{End: api.End{Kind: api.EndReturn, A: -1}},
		{End: api.End{Kind: api.EndReturn, A: 11}},
	}}
	sample.Rename(&g, func(t int) int { return t + 10 })
	if !reflect.DeepEqual(g, want) {
		t.Errorf("%+v", g)
	}
}

// TestNeeded has a ring that is entered at its middle: of each block what is needed ahead of each instruction, and ahead of the end.
func TestNeeded(t *testing.T) {
	g := api.Graph{Temps: 3, Blocks: []api.Block{
		{Code: []api.Ins{{Op: api.InsConst, D: 0}}, End: api.End{Kind: api.EndJump, To: 2}},
		{Code: []api.Ins{{Op: api.InsAdd, D: 0, A: 0, B: 1}}, End: api.End{Kind: api.EndJump, To: 2}},
		{End: api.End{Kind: api.EndIf, A: 0, B: 2, To: 1, Else: 3}},
		{Code: []api.Ins{{Op: api.InsConst, D: 2}, {Op: api.InsExit, A: 2}}, End: api.End{Kind: api.EndReturn, A: 1}},
		{End: api.End{Kind: api.EndJump, To: 1}},
	}}
	for temp, want := range [][][]bool{
		{{false, true}, {true, true}, {true}, {false, false, false}, {true}},
		{{true, true}, {true, true}, {true}, {true, true, true}, {true}},
		{{true, true}, {true, true}, {true}, {false, true, false}, {true}},
	} {
		if got := sample.Needed(g, temp); !reflect.DeepEqual(got, want) {
			t.Errorf("%d: %v, want %v", temp, got, want)
		}
	}
}
