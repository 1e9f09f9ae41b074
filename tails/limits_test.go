package tails_test

import (
	"testing"

	"switchback/api"
	"switchback/graph"
)

const most = api.MaxBlocks

// many is a graph of so many blocks; each is made of its number.
func many(n int, make func(b int) api.Block) api.Module {
	var blocks []api.Block
	for b := range n {
		blocks = append(blocks, make(b))
	}
	return one(blocks...)
}

// numbered is a block with two instructions, the first of which is its own.
func numbered(b int, end api.End) api.Block {
	return api.Block{Code: []api.Ins{{Op: api.InsConst, D: 0, N: uint32(b)}, {Op: api.InsPutc, A: 0}}, End: end}
}

// over is a block that is made the other one's beginning: whatever is to be reached, is.
func over(first api.Block, other func(b int) api.Block) func(b int) api.Block {
	return func(b int) api.Block {
		if b == 0 {
			return first
		}
		return other(b)
	}
}

// chains are two rows of blocks: each block leads to the one behind it in its row, and is the same as the one beside it but for that. They begin at the blocks 1 and 2.
func chains(b int) api.Block {
	end := to(b + 2)
	if b >= most-3 {
		end = back(0)
	}
	return api.Block{Code: []api.Ins{{Op: api.InsConst, D: 0, N: uint32((b - 1) / 2)}}, End: end}
}

// backwards has the blocks but the block 0 numbered the other way round.
func backwards(make func(b int) api.Block) func(b int) api.Block {
	turn := func(b int) int { return (most - b) % most }
	return func(b int) api.Block {
		own := make(turn(b))
		own.End.To, own.End.Else = turn(own.End.To), turn(own.End.Else)
		switch own.End.Kind {
		case api.EndReturn:
			own.End.To, own.End.Else = 0, 0
		case api.EndJump:
			own.End.Else = 0
		}
		return own
	}
}

// longer are blocks, each of which ends with all of the one ahead: there are as many instructions as there may be.
func longer(b int) api.Block {
	letters := make([]byte, b)
	for i := range letters {
		letters[i] = "pgn"[(b-i)*(b-i)%3]
	}
	return block(back(0), string(letters))
}

// TestAsManyBlocksAsMayBe has great graphs, and how many blocks and instructions are left of each.
func TestAsManyBlocksAsMayBe(t *testing.T) {
	start := block(either(1, 2), "g")
	for name, x := range map[string]struct {
		m            api.Module
		left, leftIn int
	}{
		"all the same":                {many(most, func(b int) api.Block { return block(back(0), "gp") }), 1, 2},
		"all unlike":                  {many(most, over(block(either(2, 1), "gp"), func(b int) api.Block { return block(back(0), "nn") })), 2, 4},
		"two rows":                    {many(most, over(start, chains)), most/2 + 1, most/2 + 1},
		"two rows backwards":          {many(most, backwards(over(start, chains))), most/2 + 1, most/2 + 1},
		"no room for a tail":          {many(most, over(start, func(b int) api.Block { return numbered(b, back(0)) })), most, 2*most - 1},
		"room for one tail":           {many(most-1, over(start, func(b int) api.Block { return numbered(b, back(0)) })), most, most},
		"room for one tail of two":    {many(most-1, over(start, func(b int) api.Block { return numbered(b, back(b%2)) })), most, 1 + most - 2 + 1 + (most-2)/2},
		"room for both":               {many(most-2, over(start, func(b int) api.Block { return numbered(b, back(b%2)) })), most, 1 + most - 3 + 2},
		"a tail that is there":        {many(most, over(start, tailOrNumbered)), most, most},
		"two that are the same":       {many(most, over(start, func(b int) api.Block { return numbered(min(b, most-2), back(0)) })), most, most},
		"two without instructions":    {many(most, over(start, noneOrNumbered)), most, most - 1},
		"each block longer":           {many(280, longer), 280, 279},
		"each block longer backwards": {many(280, func(b int) api.Block { return longer(279 - b) }), 280, 279},
	} {
		t.Run(name, func(t *testing.T) {
			t.Parallel()
			r := means(t, x.m, 200000, "", "\x00")
			if b, c, _ := graph.Count(r.Funcs[0]); b != x.left || c != x.leftIn {
				t.Errorf("%d blocks and %d instructions are left, want %d and %d", b, c, x.left, x.leftIn)
			}
		})
	}
}

// tailOrNumbered has as its last block what all others end with.
func tailOrNumbered(b int) api.Block {
	if b == most-1 {
		return block(back(0), "p")
	}
	return numbered(b, back(0))
}

// noneOrNumbered has as its last two blocks such as have no instructions, and are the same.
func noneOrNumbered(b int) api.Block {
	if b >= most-2 {
		return block(back(1), "")
	}
	return numbered(b, back(0))
}

// TestRoomThatComesLate has a graph of as many blocks as may be, in which two become the same only behind a cut: so there is room for one tail more.
func TestRoomThatComesLate(t *testing.T) {
	for _, first := range []bool{true, false} {
		late := []api.Block{block(to(3), "g"), block(back(1), "gpn"), block(back(1), "pn")}
		if !first {
			late = []api.Block{block(back(1), "gpn"), block(to(3), "g"), block(back(1), "pn")}
		}
		m := many(most, func(b int) api.Block {
			switch {
			case b == 0:
				return block(either(1, 2), "gg")
			case b <= 3:
				return late[b-1]
			}
			return numbered(b, back(0))
		})
		r := means(t, m, 100, "", "\x00", "a\x00")
		if b, c, _ := graph.Count(r.Funcs[0]); b != most || c != 2+3+most-4+1 {
			t.Errorf("%d blocks and %d instructions are left", b, c)
		}
	}
}

// TestManyTargets has switches and tables of as many targets as there may be, that differ in the last one, in all, or in what becomes the same.
func TestManyTargets(t *testing.T) {
	const first = 3
	for _, end := range []func(int, ...int) api.End{choose, table} {
		for _, x := range []struct {
			other func(i int) int
			left  int
		}{
			{func(i int) int { return i }, 2 + 1},
			{func(i int) int { return (i + 1) % 2 }, 2 + 1},
			{func(i int) int { return api.MaxTable - 1 - i }, 2 + 1},
		} {
			blocks := []api.Block{block(either(1, 2), "g"), {}, {}}
			tos, others := make([]int, api.MaxTable), make([]int, api.MaxTable)
			for i := range tos {
				tos[i], others[i] = first+i, first+x.other(i)
				blocks = append(blocks, block(back(0), "p"))
			}
			blocks[1].End, blocks[2].End = end(first, tos...), end(first, others...)
			r := means(t, one(blocks...), 100, "", "\x00", "\x01", "\x02")
			if n := len(r.Funcs[0].Blocks); n != x.left {
				t.Errorf("%d blocks are left, want %d", n, x.left)
			}
			blocks[len(blocks)-1] = block(back(0), "n")
			r = means(t, one(blocks...), 100, "", "\x00", "\x01", "\x02")
			want := x.left + 1
			if others[api.MaxTable-1] != tos[api.MaxTable-1] {
				want++
			}
			if n := len(r.Funcs[0].Blocks); n != want {
				t.Errorf("%d blocks are left, want %d", n, want)
			}
		}
	}
}

// TestManyFunctions has as many functions as there may be, that call one another.
func TestManyFunctions(t *testing.T) {
	var m api.Module
	for f := range api.MaxFuncs {
		call := api.Ins{Op: api.InsCall, D: 0, F: max(f-1, 0)}
		m.Funcs = append(m.Funcs, api.Graph{Temps: 3, Blocks: []api.Block{block(either(1, 2), "g"), {Code: []api.Ins{call}, End: back(0)}, block(back(0), "np"), block(back(0), "gp")}})
	}
	m.Funcs[0].Blocks[1] = block(back(0), "p")
	for _, main := range []int{0, 9, 48, 49, 50, 59} {
		m.Main = main
		r := means(t, graph.Copy(m), 1000, "", "\x00\x00\x01", string(make([]byte, 70)))
		for f, g := range r.Funcs {
			if n := len(g.Blocks); f > 0 && n != 5 || f == 0 && n != 4 {
				t.Fatalf("%d: %+v", f, g)
			}
		}
	}
}
