package link_test

import (
	"slices"
	"testing"

	"switchback/api"
	"switchback/emit"
	"switchback/graph"
	"switchback/link"
)

// great is a module with instructions that make two lines each.
func great(n int) api.Module {
	m := of(fn(1, block(back(0), slices.Repeat([]api.Ins{load(0, 0)}, n)...)))
	m.Globals = []uint32{5}
	return m
}

// row is a module whose function sets so many great numbers, which makes a line and two words each, and reckons so often, which makes a line and a word each.
func row(great, small int) api.Module {
	code := append(slices.Repeat([]api.Ins{set(0, 1<<20)}, great), slices.Repeat([]api.Ins{one(api.InsNeg, 0, 0)}, small)...)
	return of(fn(1, block(back(0), code...)))
}

// TestHowManyWords has images of as many words as there may be, and one more.
func TestHowManyWords(t *testing.T) {
	words := len(linked(t, row(30000, 0)).Words)
	left := api.ImageWords - words
	if left < 100 || left > 10000 || len(linked(t, row(30000, 100)).Words) != words+100 {
		t.Fatalf("%d words", words)
	}
	m := row(30000, left)
	ends(t, m, "", api.StopExit, []uint32{1 << 20, 1<<32 - 1<<20}[left%2], "")
	if n := len(linked(t, m).Words); n != api.ImageWords {
		t.Errorf("%d words", n)
	}
	for more := 1; more < 4; more++ {
		refused(t, row(30000, left+more), api.ErrTooBig)
	}
	m.Funcs = append(m.Funcs, fn(0, block(back(-1))))
	refused(t, m, api.ErrTooBig)
}

// TestHowManyLines has functions that are too many lines all together, though each alone is not, and the words are not too many; or just not.
func TestHowManyLines(t *testing.T) {
	m := of(row(0, 20000).Funcs[0], row(0, 20000).Funcs[0], row(0, 100).Funcs[0])
	all := 3 // what starts them
	label := len(m.Funcs)
	for f := range m.Funcs {
		l, next, e := emit.Emit(m, f, label)
		if e != api.OK {
			t.Fatal(e)
		}
		all, label = all+len(l), next
	}
	left := api.MaxLines - all
	third := row(0, 100+left)
	for more := range 3 {
		m.Funcs[2] = row(0, 100+left+more).Funcs[0]
		if more > 0 {
			refused(t, m, api.ErrTooBig)
			continue
		}
		ends(t, m, "", api.StopExit, 0, "")
		if n := len(linked(t, m).Words); n > api.MaxLines+10 {
			t.Errorf("%d words", n)
		}
	}
	linked(t, third)
}

// TestTooBig has modules whose functions are too big, or are as many and as great as there may be.
func TestTooBig(t *testing.T) {
	refused(t, great(api.MaxIns), api.ErrTooBig)
	for f := range 4 {
		m := of(slices.Repeat([]api.Graph{fn(0, block(back(-1)))}, 4)...)
		m.Globals = []uint32{0}
		m.Funcs[f] = great(api.MaxIns).Funcs[0]
		refused(t, m, api.ErrTooBig)
	}
	m := great(api.MaxIns / 2)
	m.Funcs = slices.Repeat(m.Funcs, api.MaxFuncs)
	refused(t, m, api.ErrTooBig)
	wide := fn(1)
	for b := range api.MaxBlocks {
		wide.Blocks = append(wide.Blocks, block(api.End{Kind: api.EndTable, Targets: slices.Repeat([]int{b}, 30)}))
	}
	refused(t, of(wide), api.ErrTooBig)
	m = of(row(15000, 0).Funcs[0])
	m.Funcs = slices.Repeat(m.Funcs, api.MaxFuncs)
	refused(t, m, api.ErrTooBig)
	rings := fn(2)
	for b := range 15000 {
		rings.Blocks = append(rings.Blocks, block(api.End{Kind: api.EndIf, Op: api.InsEq, To: b, Else: 14999 - b, B: 1}))
	}
	refused(t, of(slices.Repeat([]api.Graph{rings}, 3)...), api.ErrTooBig)
}

// size is what chapter 20 counts of a module.
func size(m api.Module) int {
	n := 0
	for _, g := range m.Funcs {
		blocks, code, _ := graph.Count(g)
		n += 1 + blocks + code + g.Temps
		for _, b := range g.Blocks {
			n += len(b.End.Cases) + len(b.End.Targets)
		}
	}
	return n
}

// filled is a module of as great a size as one may be that is never too big: its function has one instruction again and again.
func filled(m api.Module, f int, i api.Ins) api.Module {
	code := slices.Repeat([]api.Ins{i}, 1000-size(m))
	m = graph.Copy(m)
	m.Funcs[f].Blocks[0].Code = code
	return m
}

// TestNeverTooBig has modules of the size 1000 full of whatever makes many words.
func TestNeverTooBig(t *testing.T) {
	const temps = 24
	g := fn(temps, block(back(temps-1)))
	taker := fn(temps, block(back(10)))
	for k := range api.MaxParams {
		taker.Params = append(taker.Params, temps-1-k)
		g.Arrays = append(g.Arrays, api.Array{Kind: api.ArrayLocal, N: 100}, api.Array{Kind: api.ArrayGlobal})
		taker.Arrays = append(taker.Arrays, api.Array{Kind: api.ArrayParam})
	}
	m := of(g, taker)
	m.Globals, m.Arrays = []uint32{3}, []int{1000}
	i := call(9, 1, 10, 11, 12, 13, 14, 15, 16, 17)
	i.Arrs = []int{0, 2, 4, 6, 8, 10, 12, 14}
	code := []api.Ins{i, set(9, 1<<20), load(9, 0), store(0, 9), get(9, 0, 10), put(0, 9, 10), getc(9), putc(9), exit(9)}
	for op := api.InsMove; op <= api.InsLow; op++ {
		code = append(code, one(op, 9, 10))
	}
	for op := api.InsAdd; op <= api.InsLeU; op++ {
		code = append(code, two(op, 9, 10, 11))
	}
	for _, i := range code {
		whole := filled(m, 0, i)
		if size(whole) != 1000 {
			t.Fatal(size(whole))
		}
		means(t, whole, 1000, "")
	}
	i.Arrs = []int{0, 1, 2, 3, 4, 5, 6, 7}
	i.F = 1
	means(t, filled(m, 1, i), 1000, "")
}

// TestNeverTooBigByEnds has modules of the size 1000 full of ends that make many words.
func TestNeverTooBigByEnds(t *testing.T) {
	cases := func(n int) api.Module {
		g := fn(10)
		for size(of(g)) < 1000 {
			b := len(g.Blocks)
			e := api.End{Kind: api.EndSwitch, A: 9, To: b}
			for size(of(g))+1 < 1000 && len(e.Cases) < n {
				e.Cases = append(e.Cases, api.Case{N: uint32(1<<20 + len(e.Cases)), To: b})
				g.Blocks = append(g.Blocks[:b], block(e))
			}
			g.Blocks = append(g.Blocks[:b], block(e))
		}
		return of(g)
	}
	tables := func(n int) api.Module {
		g := fn(10)
		for size(of(g))+1 < 1000 {
			b := len(g.Blocks)
			n := min(n, 1000-1-size(of(g)))
			g.Blocks = append(g.Blocks, block(api.End{Kind: api.EndTable, A: 9, N: 1 << 20, To: b, Targets: slices.Repeat([]int{b}, n)}))
		}
		return of(g)
	}
	branches := fn(12)
	for b := range 900 {
		branches.Blocks = append(branches.Blocks, block(api.End{Kind: api.EndIf, Op: api.InsLeS, A: 9, B: 10, To: (b * 7) % 900, Else: (b * 11) % 900}))
	}
	returns := fn(9, slices.Repeat([]api.Block{block(back(8), getc(0))}, 400)...)
	funcs := slices.Repeat([]api.Graph{fn(9, block(back(8), getc(0), getc(1), getc(2), getc(3)))}, 60)
	for name, m := range map[string]api.Module{
		"a case a block": cases(1), "many cases": cases(400), "a target a block": tables(1), "many targets": tables(400),
		"branches": of(branches), "returns": of(returns), "functions": of(funcs...), "temps": of(fn(998, block(back(997)))),
	} {
		if n := size(m); n > 1000 || n < 800 {
			t.Errorf("%s: the size is %d", name, n)
		}
		if _, e := link.Link(m); e != api.OK {
			t.Errorf("%s: %d", name, e)
		}
		means(t, m, 1000, "", "xyz")
	}
}
