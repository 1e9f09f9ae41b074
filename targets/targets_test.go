package targets_test

import (
	"reflect"
	"slices"
	"testing"

	"switchback/api"
	"switchback/graph"
	"switchback/sample"
	"switchback/targets"
)

func ends() map[string]api.End {
	return map[string]api.End{
		"jump":   {Kind: api.EndJump, To: 3},
		"if":     {Kind: api.EndIf, Op: api.InsEq, To: 3, Else: 4},
		"switch": {Kind: api.EndSwitch, To: 3, Cases: []api.Case{{N: 9, To: 4}, {N: 1, To: 3}, {N: 2, To: 5}}},
		"table":  {Kind: api.EndTable, To: 3, Targets: []int{4, 4, 5}},
		"return": {Kind: api.EndReturn, A: 3},
		"none":   {To: 3, Else: 4},
		"what":   {Kind: 6, To: 3, Cases: []api.Case{{To: 1}}},
	}
}

func TestTargets(t *testing.T) {
	for name, want := range map[string][]int{"jump": {3}, "if": {3, 4}, "switch": {3, 4, 3, 5}, "table": {3, 4, 4, 5}, "return": nil, "none": nil, "what": nil} {
		e := ends()[name]
		var got []int
		for to := range targets.Of(&e) {
			got = append(got, *to)
			*to += 10
		}
		if !slices.Equal(got, want) {
			t.Errorf("%s: %d, want %d", name, got, want)
		}
		var now []int
		for to := range targets.Of(&e) {
			now = append(now, *to-10)
		}
		if !slices.Equal(now, want) {
			t.Errorf("%s written over: %d, want %d", name, now, want)
		}
	}
}

// TestStopped has a loop left at each of its targets.
func TestStopped(t *testing.T) {
	for name, e := range ends() {
		all := 0
		for range targets.Of(&e) {
			all++
		}
		for most := 1; most <= all; most++ {
			n := 0
			for range targets.Of(&e) {
				if n++; n == most {
					break
				}
			}
			if n != most {
				t.Errorf("%s: %d of %d", name, n, most)
			}
		}
	}
}

func TestTheSameAsNext(t *testing.T) {
	for i := range uint64(500) {
		for _, g := range sample.Module(i).Funcs {
			for b := range g.Blocks {
				var got []int
				for to := range targets.Of(&g.Blocks[b].End) {
					got = append(got, *to)
				}
				slices.Sort(got)
				if got = slices.Compact(got); !reflect.DeepEqual(got, graph.Next(g, b)) {
					t.Fatalf("%+v: %d", g.Blocks[b].End, got)
				}
			}
		}
	}
}
