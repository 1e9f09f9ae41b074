package alloc_test

import (
	"slices"
	"testing"

	"switchback/api"
)

// overlapping puts out each temp that it sets only when so many were set, itself with them.
func overlapping(n, many int) api.Block {
	b := block(back(n - 1))
	for temp := range n {
		b.Code = append(b.Code, getc(temp))
		if first := temp - many + 1; first >= 0 {
			b.Code = append(b.Code, putc(first))
		}
	}
	return b
}

// meetsAll sets a temp, and puts it out behind all others.
func meetsAll(n int) api.Block {
	b := oneBehindTheOther(n - 1)
	b.Code = append([]api.Ins{getc(n - 1)}, b.Code...)
	b.Code = append(b.Code, putc(n-1))
	return b
}

// row is a graph of as many blocks as there may be, with as many instructions; each goes on to the next one.
func row(own func(b int) []api.Ins, end func(next int) api.End) api.Graph {
	g := of(api.MaxTemps, make([]api.Block, api.MaxBlocks)...)
	for b := range g.Blocks {
		g.Blocks[b] = block(end((b+1)%api.MaxBlocks), own(b)...)
	}
	return g
}

// TestAsManyAsMayBe has functions as great as they may be, and how many locations they have at most.
func TestAsManyAsMayBe(t *testing.T) {
	const all, some = api.MaxTemps, 400
	alone := func(b int) []api.Ins { return []api.Ins{getc(b % all), putc(b % all)} }
	handed := func(b int) []api.Ins { return []api.Ins{putc(b % some), getc((b + 1) % some)} }
	unreached := row(alone, to)
	unreached.Blocks[0] = block(back(-1))
	long := oneBehindTheOther(all)
	long.Code = slices.Repeat(long.Code, 3)[:api.MaxIns]
	for name, x := range map[string]struct {
		g    api.Graph
		most int
	}{
		"all at once":             {of(all, allAtOnce(all)), all},
		"none is set":             {of(all, allUsed(all)), all},
		"one behind the other":    {of(all, oneBehindTheOther(all)), 1},
		"again and again":         {of(all, long), 1},
		"one meets all others":    {of(all, meetsAll(all)), 2},
		"hundred at once":         {of(all, overlapping(all, 100)), 199},
		"each block alone":        {row(alone, to), 1},
		"each hands one on":       {row(handed, to), 1},
		"each to itself, too":     {row(alone, func(next int) api.End { return table(7, next, (next+api.MaxBlocks-1)%api.MaxBlocks) }), 2},
		"each back by one, too":   {row(handed, func(next int) api.End { return table(7, next, (next+api.MaxBlocks-2)%api.MaxBlocks) }), some},
		"not reached":             {unreached, 1},
		"none":                    {row(func(int) []api.Ins { return nil }, to), 0},
		"the first and last seen": {of(all, block(back(all-1), putc(0))), 2},
	} {
		t.Run(name, func(t *testing.T) {
			t.Parallel()
			m := api.Module{Funcs: []api.Graph{x.g}}
			r := allocated(t, m)
			if n := r.Funcs[0].Temps; n > x.most || n == 0 && x.most > 0 || x.most < 3 && n < x.most {
				t.Errorf("%d locations, want %d", n, x.most)
			}
			runs(t, m, r, []int{100, 20000, 100000}, "", "abcdefghij\x00\x01\x02")
		})
	}
}

// allUsed puts out so many temps that nothing sets.
func allUsed(n int) api.Block {
	b := block(back(-1))
	for temp := range n {
		b.Code = append(b.Code, putc(temp))
	}
	return b
}

// TestOverlapping has temps each of which meets those that are close to it.
func TestOverlapping(t *testing.T) {
	const all, many = api.MaxTemps, 30
	g := of(all, overlapping(all, many))
	r := allocated(t, api.Module{Funcs: []api.Graph{g}}).Funcs[0]
	where := locations(t, g, r)
	for b := range all - many + 1 {
		for a := b + 1; a < b+many; a++ {
			if where[a] == where[b] {
				t.Fatalf("%d and %d are at %d", a, b, where[a])
			}
		}
	}
	if r.Temps < many || r.Temps > 2*many-1 {
		t.Errorf("%d locations", r.Temps)
	}
}

// TestManyFunctions has as many functions as there may be, each with as many temps, and all but the first one with as many parameters.
func TestManyFunctions(t *testing.T) {
	var m api.Module
	for f := range api.MaxFuncs {
		g := of(api.MaxTemps, block(back(f), getc(f), getc(f+1), putc(f), putc(f+1), api.Ins{Op: api.InsCall, D: f, F: min(f+1, api.MaxFuncs-1), Args: []int{0, 1, 2, 3, 4, 5, 6, 7}}))
		g.Params = []int{100, 200, 300, 400, 500, 600, 700, 7999}
		m.Funcs = append(m.Funcs, g)
	}
	m.Funcs[0].Params = nil
	r := allocated(t, m)
	runs(t, m, r, []int{10, 100, 1000}, "", "abc")
	for f, g := range r.Funcs {
		// Each uses eight temps as arguments: those of them that it does not set are 0, and meet the parameters.
		if g.Temps < 8 || g.Temps > 18 {
			t.Errorf("%d: %d locations", f, g.Temps)
		}
	}
}
