package thread_test

import (
	"fmt"
	"reflect"
	"slices"
	"testing"

	"switchback/api"
	"switchback/graph"
	"switchback/sample"
	"switchback/thread"
)

// threaded threads a module, and checks all that is promised of every one, but for its runs.
func threaded(t *testing.T, m api.Module) api.Module {
	t.Helper()
	ahead := graph.Copy(m)
	r, e := thread.Thread(m)
	if e != api.OK {
		t.Fatalf("%d: %s", e, short(m))
	}
	if !reflect.DeepEqual(m, ahead) {
		t.Fatal("the module is changed")
	}
	if s := sample.UnlikeHead(m, r); s != "" {
		t.Fatalf("%s\n%s\n%s", s, short(m), short(r))
	}
	if sample.Shared(ahead, r) || sample.Shared(m, r) {
		t.Fatalf("shared memory: %s", short(m))
	}
	again, e := thread.Thread(r)
	if e != api.OK {
		t.Fatal(e)
	}
	for i, g := range r.Funcs {
		if s := wrong(g); s != "" {
			t.Fatalf("the function %d: %s\n%s\n%s", i, s, short(m), short(r))
		}
		blocks, code, _ := graph.Count(m.Funcs[i])
		b, c, _ := graph.Count(g)
		if b > blocks || c > code {
			t.Fatalf("%d blocks and %d instructions, ahead %d and %d", b, c, blocks, code)
		}
		if x, y, _ := graph.Count(again.Funcs[i]); x != b || y != c {
			t.Fatalf("once more: %d blocks and %d instructions, ahead %d and %d\n%s\n%s", x, y, b, c, short(m), short(r))
		}
	}
	return r
}

// wrong tells what is in a graph that the chapter rules out.
func wrong(g api.Graph) string {
	reached, from := make([]bool, len(g.Blocks)), make([][]int, len(g.Blocks))
	reached[0] = true
	for changed := true; changed; {
		changed = false
		for b := range g.Blocks {
			for _, to := range graph.Next(g, b) {
				changed = changed || reached[b] && !reached[to]
				reached[to] = reached[to] || reached[b]
			}
		}
	}
	for b, is := range reached {
		if !is {
			return "a block that is not reached"
		}
		if oneWay(g.Blocks[b].End) {
			return "an end that might be a jump"
		}
		for _, to := range graph.Next(g, b) {
			from[to] = append(from[to], b)
			if bare(g, to) && !inRing(g, to) {
				return "a bare block"
			}
		}
	}
	for b, l := range from {
		if b != 0 && len(l) == 1 && g.Blocks[l[0]].End.Kind == api.EndJump {
			return "blocks that follow one another"
		}
	}
	return ""
}

func oneWay(e api.End) bool {
	switch e.Kind {
	case api.EndIf:
		return e.To == e.Else
	case api.EndSwitch:
		return !slices.ContainsFunc(e.Cases, func(c api.Case) bool { return c.To != e.To })
	case api.EndTable:
		return !slices.ContainsFunc(e.Targets, func(to int) bool { return to != e.To })
	}
	return false
}

func bare(g api.Graph, b int) bool {
	own := g.Blocks[b]
	return len(own.Code) == 0 && own.End.Kind == api.EndJump && own.End.To != b
}

// inRing tells whether a bare block leads to itself through bare blocks.
func inRing(g api.Graph, b int) bool {
	at := b
	for range g.Blocks {
		if !bare(g, at) {
			return false
		}
		if at = g.Blocks[at].End.To; at == b {
			return true
		}
	}
	return false
}

func asMany(n int) int { return n }

// short is how a failure tells of something: great graphs not whole.
func short(v any) string {
	return fmt.Sprintf("%.3000s", fmt.Sprintf("%+v", v))
}

// means checks a threaded module's runs against those of the module.
func means(t *testing.T, m api.Module, fuel int, inputs ...string) api.Module {
	t.Helper()
	r := threaded(t, m)
	for _, input := range inputs {
		if s := sample.Unlike(m, r, input, fuel, asMany); s != "" {
			t.Fatalf("%q: %s\n%s\n%s", input, s, short(m), short(r))
		}
	}
	return r
}

// one is a module of one function, of 3 temps, with blocks of its own.
func one(blocks ...api.Block) api.Module {
	return api.Module{Funcs: []api.Graph{{Temps: 3, Blocks: blocks}}}
}

// block is a block whose instructions put out letters.
func block(end api.End, letters ...uint32) api.Block {
	b := api.Block{End: end}
	for _, l := range letters {
		b.Code = append(b.Code, api.Ins{Op: api.InsConst, D: 2, N: l}, api.Ins{Op: api.InsPutc, A: 2})
	}
	return b
}

func reads(end api.End) api.Block {
	return api.Block{Code: []api.Ins{{Op: api.InsGetc, D: 0}}, End: end}
}

func to(b int) api.End { return api.End{Kind: api.EndJump, To: b} }

func back(a int) api.End { return api.End{Kind: api.EndReturn, A: a} }

// either goes to one block where the temp 0 is 0, else to another one.
func either(b, other int) api.End {
	return api.End{Kind: api.EndIf, Op: api.InsEq, A: 0, B: 1, To: b, Else: other}
}

func choose(other int, tos ...int) api.End {
	e := api.End{Kind: api.EndSwitch, To: other}
	for n, b := range tos {
		e.Cases = append(e.Cases, api.Case{N: uint32(n), To: b})
	}
	return e
}

func table(other int, tos ...int) api.End {
	return api.End{Kind: api.EndTable, To: other, Targets: tos}
}

// TestShapes has small graphs, and how many blocks are left of each.
func TestShapes(t *testing.T) {
	for name, x := range map[string]struct {
		blocks []api.Block
		left   int
	}{
		"example 1":             {[]api.Block{{End: to(2)}, {End: back(-1)}, {End: to(1)}}, 1},
		"example 2":             {[]api.Block{{End: to(0)}}, 1},
		"not reached":           {[]api.Block{block(back(2), 'a'), block(to(2), 'b'), block(to(1), 'c'), block(to(0), 'd')}, 1},
		"one behind another":    {[]api.Block{block(to(2), 'a'), block(back(2), 'c'), block(to(1), 'b')}, 1},
		"behind an if":          {[]api.Block{reads(either(1, 2)), block(to(3), 'a'), block(to(4), 'b'), block(back(0), 'c'), block(back(1), 'd')}, 3},
		"met behind an if":      {[]api.Block{reads(either(1, 2)), block(to(3), 'a'), block(to(3), 'b'), block(back(0), 'c')}, 4},
		"an if to one":          {[]api.Block{reads(either(1, 1)), block(back(0), 'a')}, 1},
		"an if to one at last":  {[]api.Block{reads(either(1, 2)), {End: to(3)}, {End: to(4)}, {End: to(4)}, block(back(0), 'a')}, 1},
		"an if within an if":    {[]api.Block{reads(either(1, 2)), {End: either(3, 4)}, {End: to(5)}, {End: to(5)}, {End: to(2)}, block(back(0), 'a')}, 1},
		"one way has something": {[]api.Block{reads(either(1, 2)), block(to(2), 'b'), block(back(0), 'a')}, 3},
		"a switch to one":       {[]api.Block{reads(choose(4, 1, 2, 3)), {End: to(4)}, {End: to(3)}, {End: to(1)}, block(back(0), 'a')}, 1},
		"a switch of no cases":  {[]api.Block{reads(choose(1)), {End: choose(2)}, block(back(0), 'a')}, 1},
		"a switch to two":       {[]api.Block{reads(choose(4, 1, 2, 3)), {End: to(4)}, {End: to(3)}, block(back(0), 'b'), block(back(0), 'a')}, 3},
		"a table to one":        {[]api.Block{reads(table(1, 2, 1)), {End: to(3)}, {End: to(1)}, block(back(0), 'a')}, 1},
		"a table to two":        {[]api.Block{reads(table(1, 2, 1)), {End: to(3)}, block(back(0), 'b'), block(back(0), 'a')}, 3},
		"a bare block 0":        {[]api.Block{{End: to(2)}, block(to(2), 'a'), reads(either(1, 3)), block(back(0), 'b')}, 3},
		"back to the block 0":   {[]api.Block{reads(either(1, 2)), block(to(0), 'a'), block(back(0), 'b')}, 3},
		"bare, and back to it":  {[]api.Block{{End: to(1)}, reads(either(3, 2)), block(back(0), 'b'), {End: to(0)}}, 2},
		"behind the block 0":    {[]api.Block{block(to(1), 'a'), block(to(2), 'b'), block(to(0), 'c')}, 1},
		"a ring":                {[]api.Block{reads(either(1, 3)), {End: to(2)}, {End: to(1)}, block(back(0), 'a')}, 3},
		"a ring at once":        {[]api.Block{{End: to(2)}, {End: to(0)}, {End: to(1)}}, 1},
		"to a ring":             {[]api.Block{{End: to(1)}, {End: to(2)}, {End: to(3)}, {End: to(1)}}, 1},
		"a ring of ifs":         {[]api.Block{reads(either(1, 4)), {End: either(2, 3)}, {End: to(1)}, {End: to(1)}, block(back(0), 'a')}, 3},
		"a ring to be left":     {[]api.Block{reads(either(1, 4)), {End: either(2, 3)}, {End: to(1)}, {End: to(4)}, block(back(0), 'a')}, 3},
		"a ring and itself":     {[]api.Block{reads(choose(1, 2, 3)), {End: to(1)}, {End: either(2, 2)}, {End: to(1)}}, 3},
	} {
		t.Run(name, func(t *testing.T) {
			r := means(t, one(x.blocks...), 200, "", "a", "\x00", "\x01", "\x02", "\x00\x00", "\x00\x01")
			if n := len(r.Funcs[0].Blocks); n != x.left {
				t.Errorf("%d blocks are left, want %d: %+v", n, x.left, r)
			}
		})
	}
}

// TestEachFunction has the second function's blocks led on as well as the first one's, and what stands outside of blocks as ahead.
func TestEachFunction(t *testing.T) {
	m := api.Module{
		Globals: []uint32{5, 6},
		Arrays:  []int{3},
		Funcs: []api.Graph{
			{Temps: 3, Params: []int{2, 0}, Arrays: []api.Array{{Kind: api.ArrayParam}, {Kind: api.ArrayLocal, N: 4}}, Blocks: []api.Block{{End: to(1)}, reads(to(2)), block(back(2), 'a')}},
			{Temps: 2, Arrays: []api.Array{{Kind: api.ArrayGlobal}}, Blocks: []api.Block{{End: to(1)}, {End: to(2)}, {Code: []api.Ins{{Op: api.InsCall, D: 1, Args: []int{0, 1}, Arrs: []int{0}}}, End: to(3)}, {End: back(1)}}},
		},
		Main: 1,
	}
	r := means(t, m, 100, "", "x")
	for i, g := range r.Funcs {
		if len(g.Blocks) != 1 || g.Temps != m.Funcs[i].Temps || !reflect.DeepEqual(g.Params, m.Funcs[i].Params) || !reflect.DeepEqual(g.Arrays, m.Funcs[i].Arrays) {
			t.Errorf("%+v", g)
		}
	}
}

func TestWhatMayNotBe(t *testing.T) {
	for _, m := range []api.Module{
		{},
		one(),
		{Funcs: one(block(back(0))).Funcs, Main: 1},
		one(block(to(1))),
		one(block(to(-1))),
		one(api.Block{}),
		one(block(either(0, 1))),
		one(block(back(3))),
		one(block(back(0)), api.Block{Code: []api.Ins{{Op: api.InsConst, D: 3}}, End: back(0)}),
		{Funcs: append(one(block(back(0))).Funcs, api.Graph{})},
	} {
		r, e := thread.Thread(m)
		if e != api.ErrArg || !reflect.DeepEqual(r, api.Module{}) {
			t.Errorf("%+v: %d, %+v", m, e, r)
		}
	}
}
