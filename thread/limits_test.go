package thread_test

import (
	"testing"

	"switchback/api"
)

// many is a graph of as many blocks as there may be; each is made of its number.
func many(make func(b int) api.Block) api.Module {
	var blocks []api.Block
	for b := range api.MaxBlocks {
		blocks = append(blocks, make(b))
	}
	return one(blocks...)
}

// TestAsManyBlocksAsMayBe has great graphs, and how many blocks are left of each. In some of them one block after the other is found to lead to one place alone.
func TestAsManyBlocksAsMayBe(t *testing.T) {
	const last = api.MaxBlocks - 1
	forth := func(end func(next, over int) api.End) func(b int) api.Block {
		return func(b int) api.Block {
			if b == last {
				return block(back(0), 'a')
			}
			return api.Block{End: end(b+1, min(b+2, last))}
		}
	}
	// backwards is the same graph, but for the block 0, with its blocks the other way round.
	backwards := func(end func(next, over int) api.End) func(b int) api.Block {
		return func(b int) api.Block {
			switch b {
			case 0:
				return api.Block{End: to(last)}
			case 1:
				return block(back(0), 'a')
			}
			return api.Block{End: end(b-1, max(b-2, 1))}
		}
	}
	jump := func(next, _ int) api.End { return to(next) }
	for name, x := range map[string]struct {
		make func(b int) api.Block
		left int
	}{
		"bare blocks":                 {forth(jump), 1},
		"bare blocks backwards":       {backwards(jump), 1},
		"ifs":                         {forth(either), 1},
		"ifs backwards":               {backwards(either), 1},
		"switches":                    {forth(func(next, over int) api.End { return choose(next, over, next, over) }), 1},
		"tables backwards":            {backwards(func(next, over int) api.End { return table(over, next, over) }), 1},
		"one ring":                    {func(b int) api.Block { return api.Block{End: to((b + 1) % api.MaxBlocks)} }, 1},
		"rings of two":                {func(b int) api.Block { return api.Block{End: choose(b^1, b^1)} }, 1},
		"two ways each":               {func(b int) api.Block { return api.Block{End: choose(b^1, b)} }, 2},
		"one block behind another":    {func(b int) api.Block { return reads(forth(jump)(b).End) }, 1},
		"as many instructions, too":   {func(b int) api.Block { return block(forth(jump)(b).End, 'a') }, 1},
		"not reached":                 {func(b int) api.Block { return block(back(0), 'a') }, 1},
		"each needed":                 {func(b int) api.Block { return reads(either((b+1)%api.MaxBlocks, 0)) }, api.MaxBlocks},
		"each other one bare":         {eachOtherBare, api.MaxBlocks / 2},
		"ifs around which none leads": {aroundNone, api.MaxBlocks},
	} {
		t.Run(name, func(t *testing.T) {
			t.Parallel()
			m := many(x.make)
			r := means(t, m, 100000, "", "\x00\x00\x00b")
			if n := len(r.Funcs[0].Blocks); n != x.left {
				t.Errorf("%d blocks are left, want %d", n, x.left)
			}
		})
	}
}

// eachOtherBare has bare blocks between others, each of which goes on to a bare one or back to the block 0.
func eachOtherBare(b int) api.Block {
	next := (b + 1) % api.MaxBlocks
	if b%2 == 0 {
		return reads(either(next, 0))
	}
	return api.Block{End: to(next)}
}

// aroundNone has blocks without instructions, each of which leads to two places.
func aroundNone(b int) api.Block {
	const last = api.MaxBlocks - 1
	if b >= last-1 {
		return block(back(0), uint32(b))
	}
	return api.Block{End: either(b+1, last)}
}

// TestManyTargets has switches and tables of as many targets as there may be: all lead to one place, but for one at any place among them.
func TestManyTargets(t *testing.T) {
	const first = 2
	for _, other := range []int{-1, 0, 1, 200, api.MaxTable - 1} {
		for _, end := range []func(int, ...int) api.End{choose, table} {
			blocks := []api.Block{reads(api.End{}), block(back(0), 'a')}
			tos := make([]int, api.MaxTable)
			for i := range tos {
				tos[i] = first + i
				blocks = append(blocks, api.Block{End: to(1)})
			}
			left := 1
			if other >= 0 {
				blocks[tos[other]] = block(back(0), 'b')
				left = 3
			}
			blocks[0].End = end(1, tos...)
			r := means(t, one(blocks...), 100, "", "\x00", "\x01", "\x02", "\xc8", "\xc7")
			if n := len(r.Funcs[0].Blocks); n != left {
				t.Errorf("%d: %d blocks are left, want %d", other, n, left)
			}
		}
	}
}

// TestManyFunctions has as many functions as there may be, that call one another.
func TestManyFunctions(t *testing.T) {
	var m api.Module
	for f := range api.MaxFuncs {
		code := []api.Ins{{Op: api.InsCall, D: 0, F: max(f-1, 0)}}
		m.Funcs = append(m.Funcs, api.Graph{Temps: 3, Blocks: []api.Block{{End: to(3)}, {Code: code, End: to(2)}, block(back(0), 'a'), {End: either(1, 1)}}})
	}
	m.Funcs[0] = one(block(back(0), 'b')).Funcs[0]
	for _, main := range []int{0, 9, 48, 49, 50, 59} {
		m.Main = main
		r := means(t, m, 1000, "")
		for _, g := range r.Funcs {
			if len(g.Blocks) != 1 {
				t.Fatalf("%+v", g)
			}
		}
	}
}
