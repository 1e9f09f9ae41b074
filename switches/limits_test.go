package switches_test

import (
	"reflect"
	"testing"

	"switchback/api"
	"switchback/graph"
	"switchback/switches"
)

// filled is a module of one function of so many temps, blocks and instructions, with switches of some numbers each; the first one is reached.
func filled(temps, blocks, code int, numbers ...[]uint32) api.Module {
	m := one(make([]api.Block, blocks)...)
	g := &m.Funcs[0]
	g.Temps = temps
	for b := range g.Blocks {
		g.Blocks[b].End = back(-1)
		if b < len(numbers) {
			g.Blocks[b].End = choose(blocks-1, cases(numbers[b]...)...)
			for i := range g.Blocks[b].End.Cases {
				g.Blocks[b].End.Cases[i].To = blocks - 1
			}
		}
	}
	for range code {
		g.Blocks[blocks-1].Code = append(g.Blocks[blocks-1].Code, api.Ins{Op: api.InsPutc, A: 0})
	}
	return m
}

// tables is a module without switches, of so many temps, blocks and instructions.
func tables(temps, blocks, code int) api.Module {
	m := filled(temps, blocks, code)
	m.Funcs[0].Blocks[0].End = api.End{Kind: api.EndTable, A: 0, To: blocks - 1, Targets: make([]int, api.MaxTable)}
	return m
}

// behind puts one module's function behind another one's.
func behind(m, other api.Module) api.Module {
	m.Funcs = append(m.Funcs, other.Funcs...)
	return m
}

// TestBounds has functions in which there is just room for what comes in the place of their switches, or just none.
func TestBounds(t *testing.T) {
	small := filled(2, 3, 0, wide(3))
	twenty := make([][]uint32, 20)
	for i := range twenty {
		twenty[i] = wide(api.MaxTable)
	}
	for name, x := range map[string]struct {
		m    api.Module
		want api.Errno
	}{
		"all temps":                     {filled(api.MaxTemps, 3, 0, wide(3)), api.ErrLong},
		"all temps but one":             {filled(api.MaxTemps-1, 3, 0, wide(3)), api.OK},
		"all temps, no cases":           {filled(api.MaxTemps, 3, 0, nil), api.ErrLong},
		"all temps, a table":            {filled(api.MaxTemps, 3, 0, upTo(1, 9)), api.ErrLong},
		"all temps, no switch":          {tables(api.MaxTemps, 3, 0), api.OK},
		"all temps, a switch elsewhere": {behind(small, tables(api.MaxTemps, 3, 0)), api.OK},
		"all temps behind":              {behind(small, filled(api.MaxTemps, 3, 0, nil)), api.ErrLong},
		"all temps ahead":               {behind(filled(api.MaxTemps, 3, 0, nil), small), api.ErrLong},
		"blocks":                        {filled(2, api.MaxBlocks-800, 0, wide(400)), api.OK},
		"a block more":                  {filled(2, api.MaxBlocks-799, 0, wide(400)), api.ErrLong},
		"blocks for a table":            {filled(2, api.MaxBlocks-800, 0, upTo(1, 400)), api.OK},
		"a block more for a table":      {filled(2, api.MaxBlocks-799, 0, upTo(1, 400)), api.ErrLong},
		"blocks for two":                {filled(2, api.MaxBlocks-802, 0, wide(400), wide(1)), api.OK},
		"a block more for two":          {filled(2, api.MaxBlocks-801, 0, wide(1), wide(400)), api.ErrLong},
		"blocks for twenty":             {filled(2, api.MaxBlocks-16000, 0, twenty...), api.OK},
		"a block more for twenty":       {filled(2, api.MaxBlocks-15999, 0, twenty...), api.ErrLong},
		"all blocks, no cases":          {filled(2, api.MaxBlocks, 0, nil, nil), api.OK},
		"all blocks, one case":          {filled(2, api.MaxBlocks, 0, wide(1)), api.ErrLong},
		"all blocks, no switch":         {tables(2, api.MaxBlocks, 0), api.OK},
		"all blocks, elsewhere":         {behind(small, tables(2, api.MaxBlocks, api.MaxIns)), api.OK},
		"blocks in two functions":       {behind(filled(2, api.MaxBlocks-6, 0, wide(3)), filled(2, api.MaxBlocks-6, 0, wide(3))), api.OK},
		"a block more in the second":    {behind(filled(2, api.MaxBlocks-6, 0, wide(3)), filled(2, api.MaxBlocks-5, 0, wide(3))), api.ErrLong},
		"instructions":                  {filled(2, 3, api.MaxIns-800, wide(400)), api.OK},
		"an instruction more":           {filled(2, 3, api.MaxIns-799, wide(400)), api.ErrLong},
		"an instruction more, a table":  {filled(2, 3, api.MaxIns-799, upTo(1, 400)), api.ErrLong},
		"instructions for three":        {filled(2, 4, api.MaxIns-12, wide(3), wide(1), wide(2)), api.OK},
		"an instruction more for three": {filled(2, 4, api.MaxIns-11, wide(3), wide(1), wide(2)), api.ErrLong},
		"all instructions, no cases":    {filled(2, 3, api.MaxIns, nil), api.OK},
		"all instructions, one case":    {filled(2, 3, api.MaxIns, wide(1)), api.ErrLong},
		"all instructions, no switch":   {tables(2, 3, api.MaxIns), api.OK},
		"as much as may be":             {filled(api.MaxTemps-1, api.MaxBlocks-16000, api.MaxIns-16000, twenty...), api.OK},
	} {
		t.Run(name, func(t *testing.T) {
			t.Parallel()
			if x.want == api.OK {
				means(t, x.m, 60000, "", "a")
				return
			}
			if r, e := switches.Lower(x.m); e != x.want || !reflect.DeepEqual(r, api.Module{}) {
				t.Errorf("%d, want %d: %s", e, x.want, short(r))
			}
		})
	}
}

// TestManyFunctions has as many functions as there may be, each with a switch.
func TestManyFunctions(t *testing.T) {
	var m api.Module
	for f := range api.MaxFuncs {
		g := choosing(wide(f + 1)...).Funcs[0]
		g.Blocks[0].Code = []api.Ins{{Op: api.InsGetc, D: 0}, {Op: api.InsCall, D: 1, F: min(f+1, api.MaxFuncs-1)}, {Op: api.InsPutc, A: 1}}
		m.Funcs = append(m.Funcs, g)
	}
	m.Funcs[api.MaxFuncs-1].Blocks[0].Code = []api.Ins{{Op: api.InsGetc, D: 0}}
	for _, main := range []int{0, 20, api.MaxFuncs - 1} {
		m.Main = main
		means(t, m, 1000, "", "\x00\x00\x00\x00")
	}
}

func TestWhatMayNotBe(t *testing.T) {
	twice := one(api.Block{End: choose(0, cases(3, 3)...)}, api.Block{}, api.Block{})
	long := filled(api.MaxTemps, 3, 0, wide(3))
	long.Main = 1
	more := filled(2, 3, 0, wide(api.MaxTable+1))
	for _, m := range []api.Module{
		{},
		one(),
		{Funcs: one(api.Block{End: back(0)}).Funcs, Main: 1},
		one(api.Block{End: choose(1)}),
		one(api.Block{End: choose(-1)}),
		one(api.Block{End: choose(0, cases(1)...)}),
		one(api.Block{}),
		one(api.Block{End: back(2)}),
		one(api.Block{End: api.End{Kind: api.EndSwitch, A: 2}}),
		one(api.Block{End: api.End{Kind: api.EndSwitch, Else: 1}}, api.Block{End: back(0)}),
		{Funcs: append(one(api.Block{End: back(0)}).Funcs, api.Graph{})},
		twice, long, more,
		filled(api.MaxTemps+1, 3, 0, wide(3)),
		filled(2, api.MaxBlocks+1, 0, wide(3)),
	} {
		if _, _, e := graph.Check(m); e == api.OK {
			t.Errorf("may be: %s", short(m))
		}
		if r, e := switches.Lower(m); e != api.ErrArg || !reflect.DeepEqual(r, api.Module{}) {
			t.Errorf("%s: %d, %s", short(m), e, short(r))
		}
	}
}
