package tails_test

import (
	"fmt"
	"reflect"
	"slices"
	"testing"

	"switchback/api"
	"switchback/graph"
	"switchback/sample"
	"switchback/tails"
)

// merged merges a module, and checks all that is promised of every one, but for its runs.
func merged(t *testing.T, m api.Module) api.Module {
	t.Helper()
	ahead := graph.Copy(m)
	r, e := tails.Merge(m)
	if e != api.OK {
		t.Fatalf("%d: %s", e, short(m))
	}
	if !reflect.DeepEqual(m, ahead) {
		t.Fatal("the module is changed")
	}
	if s := sample.UnlikeHead(m, r); s != "" {
		t.Fatalf("%s\n%s\n%s", s, short(m), short(r))
	}
	if sample.Shared(m, r) {
		t.Fatalf("shared memory: %s", short(m))
	}
	for i, g := range r.Funcs {
		own := m.Funcs[i]
		if s := wrong(g); s != "" {
			t.Fatalf("the function %d: %s\n%s\n%s", i, s, short(own), short(g))
		}
		if g.Temps != own.Temps || !slices.Equal(g.Params, own.Params) || !slices.Equal(g.Arrays, own.Arrays) {
			t.Fatalf("other Params, Temps or Arrays: %s\n%s", short(own), short(g))
		}
	}
	noMore(t, m, r)
	again, e := tails.Merge(r)
	if e != api.OK {
		t.Fatal(e)
	}
	noMore(t, r, again)
	return r
}

func noMore(t *testing.T, m, r api.Module) {
	t.Helper()
	for i, g := range r.Funcs {
		blocks, code, _ := graph.Count(m.Funcs[i])
		if b, c, _ := graph.Count(g); c > code || b+c > blocks+code {
			t.Fatalf("%d blocks and %d instructions, ahead %d and %d\n%s\n%s", b, c, blocks, code, short(m.Funcs[i]), short(g))
		}
	}
}

// wrong tells what is in a graph that the chapter rules out. What is printed is the same of a list that is nil and of one that is empty.
func wrong(g api.Graph) string {
	bodies, ends := map[string]int{}, map[string]int{}
	for _, b := range g.Blocks {
		if bodies[fmt.Sprint(b)]++; bodies[fmt.Sprint(b)] > 1 {
			return "two blocks are the same: " + fmt.Sprint(b)
		}
		if n := len(b.Code); n > 0 && len(g.Blocks) < api.MaxBlocks {
			end := fmt.Sprint(b.Code[n-1], b.End)
			if ends[end]++; ends[end] > 1 {
				return "two blocks end alike: " + end
			}
		}
	}
	return ""
}

func twice(n int) int { return 2 * n }

// short is how a failure tells of something: great graphs not whole.
func short(v any) string {
	return fmt.Sprintf("%.3000s", fmt.Sprintf("%+v", v))
}

// means checks a merged module's runs against those of the module.
func means(t *testing.T, m api.Module, fuel int, inputs ...string) api.Module {
	t.Helper()
	r := merged(t, m)
	for _, input := range inputs {
		if s := sample.Unlike(m, r, input, fuel, twice); s != "" {
			t.Fatalf("%q: %s\n%s\n%s", input, s, short(m), short(r))
		}
	}
	return r
}

// one is a module of one function, of 3 temps, with blocks of its own.
func one(blocks ...api.Block) api.Module {
	return api.Module{Funcs: []api.Graph{{Temps: 3, Blocks: blocks}}}
}

// block is a block of instructions that go by letters: g reads, p puts out what was read, n turns it, any other one adds itself to it.
func block(end api.End, letters string) api.Block {
	b := api.Block{End: end}
	for _, l := range letters {
		switch l {
		case 'g':
			b.Code = append(b.Code, api.Ins{Op: api.InsGetc, D: 0})
		case 'p':
			b.Code = append(b.Code, api.Ins{Op: api.InsPutc, A: 0})
		case 'n':
			b.Code = append(b.Code, api.Ins{Op: api.InsNot, D: 0, A: 0})
		default:
			b.Code = append(b.Code, api.Ins{Op: api.InsConst, D: 2, N: uint32(l)}, api.Ins{Op: api.InsAdd, D: 0, A: 0, B: 2})
		}
	}
	return b
}

func to(b int) api.End { return api.End{Kind: api.EndJump, To: b} }

func back(a int) api.End { return api.End{Kind: api.EndReturn, A: a} }

// either goes to one block where the temp 0 is 0, else to another one.
func either(b, other int) api.End {
	return api.End{Kind: api.EndIf, Op: api.InsEq, A: 0, B: 1, To: b, Else: other}
}

func choose(other int, tos ...int) api.End {
	e := api.End{Kind: api.EndSwitch, To: other}
	for n, b := range tos {
		e.Cases = append(e.Cases, api.Case{N: uint32(n), To: b})
	}
	return e
}

func table(other int, tos ...int) api.End {
	return api.End{Kind: api.EndTable, To: other, Targets: tos}
}

// TestExamples has the chapter's examples: the blocks that stay have the numbers that they had.
func TestExamples(t *testing.T) {
	set := api.Ins{Op: api.InsConst, D: 1, N: 'x'}
	put := api.Ins{Op: api.InsPutc, A: 1}
	neg := api.Ins{Op: api.InsNeg, D: 0, A: 0}
	first := api.Block{Code: []api.Ins{set, put}, End: back(0)}
	second := api.Block{Code: []api.Ins{neg, set, put}, End: back(0)}
	start := block(either(1, 2), "g")
	r := means(t, one(start, first, second), 100, "", "\x00", "a")
	if want := []api.Block{start, first, {Code: []api.Ins{neg}, End: to(1)}}; !reflect.DeepEqual(r.Funcs[0].Blocks, want) {
		t.Errorf("%+v", r)
	}
	r = means(t, one(start, second, first), 100, "", "\x00", "a")
	if want := []api.Block{start, {Code: []api.Ins{neg}, End: to(2)}, first}; !reflect.DeepEqual(r.Funcs[0].Blocks, want) {
		t.Errorf("%+v", r)
	}
	r = means(t, one(block(either(2, 3), "g"), block(back(1), ""), block(back(0), ""), block(back(0), "")), 100, "", "\x00", "a")
	if want := []api.Block{block(either(2, 2), "g"), block(back(1), ""), block(back(0), "")}; !reflect.DeepEqual(r.Funcs[0].Blocks, want) {
		t.Errorf("%+v", r)
	}
}

// TestShapes has small graphs, and how many blocks and instructions are left of each.
func TestShapes(t *testing.T) {
	end := back(0)
	for name, x := range map[string]struct {
		blocks       []api.Block
		left, leftIn int
	}{
		"one":                     {[]api.Block{block(to(0), "")}, 1, 0},
		"unlike ends":             {[]api.Block{block(either(1, 2), "g"), block(back(1), "p"), block(back(0), "p")}, 3, 3},
		"unlike instructions":     {[]api.Block{block(either(1, 2), "g"), block(end, "pn"), block(end, "np")}, 3, 5},
		"a common tail":           {[]api.Block{block(either(1, 2), "g"), block(end, "npg"), block(end, "ppg")}, 4, 1 + 1 + 1 + 2},
		"a tail of all":           {[]api.Block{block(choose(1, 2, 3), "g"), block(end, "ng"), block(end, "pg"), block(end, "gg")}, 5, 5},
		"tails of tails":          {[]api.Block{block(choose(1, 2, 3), "g"), block(end, "nng"), block(end, "gng"), block(end, "ppg")}, 6, 1 + 1 + 1 + 2 + 1 + 1},
		"each one longer":         {[]api.Block{block(choose(1, 2, 3), "g"), block(end, "g"), block(end, "pg"), block(end, "npg")}, 4, 4},
		"each one shorter":        {[]api.Block{block(choose(1, 2, 3), "g"), block(end, "npg"), block(end, "pg"), block(end, "g")}, 4, 4},
		"a bare one stays":        {[]api.Block{block(either(1, 2), "g"), block(end, ""), block(end, "p")}, 3, 2},
		"like the block 0":        {[]api.Block{block(either(1, 2), "gn"), block(either(1, 2), "pn"), block(end, "")}, 4, 3},
		"the same as the block 0": {[]api.Block{block(either(1, 2), "g"), block(either(1, 2), "g"), block(end, "p")}, 2, 2},
		"behind the block 0":      {[]api.Block{block(either(1, 2), "g"), block(either(1, 2), "pg"), block(end, "p")}, 3, 3},
		"the block 0 is longer":   {[]api.Block{block(either(1, 2), "pg"), block(either(1, 2), "g"), block(end, "p")}, 3, 3},
		"made the same":           {[]api.Block{block(choose(1, 2, 3), "g"), block(to(3), "p"), block(end, "pn"), block(end, "n")}, 3, 3},
		"led to the same":         {[]api.Block{block(either(1, 2), "g"), block(to(3), "p"), block(to(4), "p"), block(end, "n"), block(end, "n")}, 3, 3},
		"led to ends alike":       {[]api.Block{block(either(1, 2), "g"), block(to(3), "gp"), block(to(4), "np"), block(end, "n"), block(end, "n")}, 5, 5},
		"ifs led to the same":     {[]api.Block{block(choose(1, 2), "g"), block(either(3, 4), ""), block(either(4, 3), ""), block(end, "n"), block(end, "n")}, 3, 2},
		"switches":                {[]api.Block{block(either(1, 2), "g"), block(choose(3, 4, 5), "n"), block(choose(4, 5, 3), "n"), block(end, ""), block(end, ""), block(end, "")}, 3, 2},
		"tables":                  {[]api.Block{block(either(1, 2), "g"), block(table(3, 4, 5), "n"), block(table(4, 5, 3), "n"), block(end, ""), block(end, ""), block(end, "")}, 3, 2},
		"a table and a switch":    {[]api.Block{block(either(1, 2), "g"), block(table(3, 3), "n"), block(choose(3, 3), "n"), block(end, "")}, 4, 3},
		"to itself":               {[]api.Block{block(either(1, 2), "g"), block(to(1), "pg"), block(to(1), "ng")}, 4, 4},
		"rings apart":             {[]api.Block{block(either(1, 2), "g"), block(to(1), "p"), block(to(2), "p")}, 3, 3},
		"not reached":             {[]api.Block{block(end, "gp"), block(end, "np"), block(end, "gp")}, 3, 3},
		"one in itself":           {[]api.Block{block(to(1), "pp"), block(to(1), "pppp")}, 2, 4},
	} {
		t.Run(name, func(t *testing.T) {
			r := means(t, one(x.blocks...), 300, "", "a", "\x00", "\x01", "\x02", "\x00\x00", "\x00\x01ab", "\x01\x00\x02", "\x02\x05")
			if b, c, _ := graph.Count(r.Funcs[0]); b != x.left || c != x.leftIn {
				t.Errorf("%d blocks and %d instructions are left, want %d and %d: %+v", b, c, x.left, x.leftIn, r)
			}
		})
	}
}

func TestWhatMayNotBe(t *testing.T) {
	for _, m := range []api.Module{
		{},
		one(),
		{Funcs: one(block(back(0), "")).Funcs, Main: 1},
		one(block(to(1), "")),
		one(block(to(-1), "")),
		one(api.Block{}),
		one(block(back(3), "")),
		one(block(back(0), ""), api.Block{Code: []api.Ins{{Op: api.InsConst, D: 3}}, End: back(0)}),
		one(api.Block{Code: []api.Ins{{Op: api.InsCall, Args: []int{1}}}, End: back(0)}),
		{Funcs: append(one(block(back(0), "")).Funcs, api.Graph{})},
	} {
		r, e := tails.Merge(m)
		if e != api.ErrArg || !reflect.DeepEqual(r, api.Module{}) {
			t.Errorf("%+v: %d, %+v", m, e, r)
		}
	}
}
