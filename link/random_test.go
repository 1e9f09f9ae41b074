package link_test

import (
	"math/rand"
	"slices"
	"testing"

	"switchback/alloc"
	"switchback/api"
	"switchback/emu"
	"switchback/flow"
	"switchback/fold"
	"switchback/graph"
	"switchback/link"
	"switchback/place"
	"switchback/sample"
	"switchback/switches"
	"switchback/tails"
	"switchback/thread"
)

// spread is a module the temps of whose functions have other names, among more of them: so some are registers, and some are slots.
func spread(r *rand.Rand, m api.Module) api.Module {
	m = graph.Copy(m)
	for k := range m.Funcs {
		g := &m.Funcs[k]
		names := r.Perm(g.Temps + r.Intn(20))
		sample.Rename(g, func(temp int) int { return names[temp] })
		g.Temps = len(names)
	}
	return m
}

func TestSampleModules(t *testing.T) {
	t.Parallel()
	r := rand.New(rand.NewSource(1))
	for i := range uint64(2000) {
		m := sample.Module(i)
		if i%2 == 0 {
			m = spread(r, m)
		}
		means(t, m, 3000, sample.Input(r.Uint64()), sample.Input(r.Uint64()))
	}
}

// lowered is the module of a program.
func lowered(t *testing.T, src string) api.Module {
	t.Helper()
	p, wrong := sample.Read(src)
	if wrong != "" {
		t.Fatal(wrong)
	}
	m, e := flow.Lower(p)
	if e != api.OK {
		t.Fatal(e)
	}
	return m
}

// passes are what makes modules of modules.
func passes() []func(api.Module) (api.Module, api.Errno) {
	return []func(api.Module) (api.Module, api.Errno){fold.Fold, thread.Thread, tails.Merge, switches.Lower, thread.Thread, alloc.Alloc}
}

func TestSamplePrograms(t *testing.T) {
	t.Parallel()
	r := rand.New(rand.NewSource(2))
	for i := range uint64(300) {
		m := lowered(t, sample.Program(i))
		for _, pass := range passes() {
			m, _ = pass(m)
		}
		means(t, m, 10000, sample.Input(r.Uint64()), sample.Input(r.Uint64()))
	}
}

// TestControl has sources in which control goes wherever C lets it, ahead of the passes, and behind them.
func TestControl(t *testing.T) {
	for _, x := range sample.Control() {
		m := lowered(t, x.Source)
		ends(t, m, "input", api.StopExit, 0, x.Output)
		for _, pass := range passes() {
			m, _ = pass(m)
		}
		ends(t, m, "input", api.StopExit, 0, x.Output)
	}
}

// outcome is that of a run of an image, with no steps told.
func outcome(t *testing.T, m api.Image, input string, fuel int) api.Outcome {
	t.Helper()
	o, e := emu.Run(m, input, fuel)
	if e != api.OK {
		t.Fatal(e)
	}
	o.Steps = 0
	return o
}

// imageOf is the image of a module, whatever else is promised of it.
func imageOf(t *testing.T, m api.Module) api.Image {
	t.Helper()
	image, e := link.Link(m)
	if e != api.OK {
		t.Fatalf("%d: %s", e, short(m))
	}
	return image
}

// alike checks that the images of modules end alike, and tells whether they end.
func alike(t *testing.T, r *rand.Rand, a, b api.Module) bool {
	t.Helper()
	first, second := imageOf(t, a), imageOf(t, b)
	input := sample.Input(r.Uint64())
	o := outcome(t, first, input, 20000)
	if o.Stop == api.StopFuel {
		if o = outcome(t, second, input, 2000); o.Stop == api.StopFuel {
			return false
		}
		first, second = second, first
	}
	if p := outcome(t, second, input, 1<<28); o != p {
		t.Fatalf("%q: %+v, %+v: %s\n%s", input, o, p, short(a), short(b))
	}
	return true
}

// allAlike checks that images of modules out of numbers, and of what a change makes of these, end alike.
func allAlike(t *testing.T, seed int64, change func(r *rand.Rand, m api.Module) api.Module) {
	t.Helper()
	r := rand.New(rand.NewSource(seed))
	ended := 0
	for i := range uint64(1500) {
		m := spread(r, sample.Module(i))
		other := change(r, graph.Copy(m))
		if _, _, e := graph.Check(other); e != api.OK {
			t.Fatalf("%d: %s", e, short(other))
		}
		if alike(t, r, m, other) {
			ended++
		}
	}
	if ended < 750 {
		t.Errorf("only %d end", ended)
	}
}

// TestPasses has what passes make of modules (P21.1).
func TestPasses(t *testing.T) {
	t.Parallel()
	allAlike(t, 3, func(r *rand.Rand, m api.Module) api.Module {
		all := passes()
		for range 1 + r.Intn(4) {
			if result, e := all[r.Intn(len(all))](m); e == api.OK {
				m = result
			}
		}
		return m
	})
}

// TestPassesOfPrograms has all passes, one behind the other, at the modules of programs (P21.1).
func TestPassesOfPrograms(t *testing.T) {
	t.Parallel()
	r := rand.New(rand.NewSource(4))
	ended := 0
	for i := range uint64(120) {
		first := lowered(t, sample.Program(i))
		m := first
		for _, pass := range passes() {
			m, _ = pass(m)
			if alike(t, r, first, m) {
				ended++
			}
		}
	}
	if ended < 360 {
		t.Errorf("only %d end", ended)
	}
}

// eachIns calls do at each instruction of a module.
func eachIns(m api.Module, do func(i *api.Ins)) {
	for _, g := range m.Funcs {
		for _, b := range g.Blocks {
			for k := range b.Code {
				do(&b.Code[k])
			}
		}
	}
}

// numbered is a module whose functions have other numbers: name tells them.
func numbered(m api.Module, name []int) api.Module {
	funcs := make([]api.Graph, len(m.Funcs))
	for f, g := range m.Funcs {
		funcs[name[f]] = g
	}
	m.Funcs, m.Main = funcs, name[m.Main]
	eachIns(m, func(i *api.Ins) {
		if i.Op == api.InsCall {
			i.F = name[i.F]
		}
	})
	return m
}

// TestNumbers has functions that are numbered otherwise (P21.3).
func TestNumbers(t *testing.T) {
	t.Parallel()
	allAlike(t, 5, func(r *rand.Rand, m api.Module) api.Module { return numbered(m, r.Perm(len(m.Funcs))) })
}

// withGlobal is a module with a global more, at a place among the others.
func withGlobal(m api.Module, at int, n uint32) api.Module {
	m.Globals = slices.Insert(m.Globals, at, n)
	eachIns(m, func(i *api.Ins) {
		if (i.Op == api.InsLoad || i.Op == api.InsStore) && i.F >= at {
			i.F++
		}
	})
	return m
}

// withArray is a module with an array more, at a place among the others.
func withArray(m api.Module, at, words int) api.Module {
	m.Arrays = slices.Insert(m.Arrays, at, words)
	for _, g := range m.Funcs {
		for k, a := range g.Arrays {
			if a.Kind == api.ArrayGlobal && a.N >= at {
				g.Arrays[k].N++
			}
		}
	}
	return m
}

// withFunction is a module with a function more that nobody calls.
func withFunction(r *rand.Rand, m api.Module) api.Module {
	g := fn(12, block(to(1), getc(11), putc(11), one(api.InsMove, 0, 10), call(3, m.Main)), block(back(4), exit(2)))
	g.Arrays = []api.Array{{Kind: api.ArrayLocal, N: 1 + r.Intn(900)}}
	m.Funcs = append(m.Funcs, g)
	return numbered(m, r.Perm(len(m.Funcs)))
}

// withBlock is a module one of whose functions has a block more that nobody reaches.
func withBlock(r *rand.Rand, m api.Module) api.Module {
	g := &m.Funcs[r.Intn(len(m.Funcs))]
	end := []api.End{back(-1), to(len(g.Blocks)), to(0)}[r.Intn(3)]
	x := block(end)
	if g.Temps > 0 {
		x.Code = []api.Ins{getc(0), putc(g.Temps - 1), call(g.Temps-1, m.Main), exit(0)}[r.Intn(4):]
	}
	g.Blocks = append(g.Blocks, x)
	*g = reordered(r, *g)
	return m
}

// reordered is a graph with its blocks in another order.
func reordered(r *rand.Rand, g api.Graph) api.Graph {
	order := []int{0}
	for _, b := range r.Perm(len(g.Blocks) - 1) {
		order = append(order, b+1)
	}
	g, e := place.Reorder(g, order)
	if e != api.OK {
		panic(e)
	}
	return g
}

// TestMore has a global, an array, a function that nobody calls, a block that nobody reaches more (P21.4).
func TestMore(t *testing.T) {
	t.Parallel()
	allAlike(t, 6, func(r *rand.Rand, m api.Module) api.Module {
		switch r.Intn(5) {
		case 0:
			return withGlobal(m, r.Intn(len(m.Globals)+1), r.Uint32())
		case 1:
			return withArray(m, r.Intn(len(m.Arrays)+1), 1+r.Intn(1000))
		case 2:
			return withFunction(r, m)
		case 3:
			return withBlock(r, m)
		}
		return withBlock(r, withFunction(r, withArray(withGlobal(m, 0, 1), 0, 1)))
	})
}

// TestOrder has the blocks of all functions in other orders (P21.5).
func TestOrder(t *testing.T) {
	t.Parallel()
	allAlike(t, 7, func(r *rand.Rand, m api.Module) api.Module {
		for k, g := range m.Funcs {
			m.Funcs[k] = reordered(r, g)
		}
		return m
	})
}

// TestTraps has runs by much fuel: none traps but as modules do (P21.2).
func TestTraps(t *testing.T) {
	t.Parallel()
	r := rand.New(rand.NewSource(8))
	seen := map[uint32]int{}
	for i := range uint64(4000) {
		o := outcome(t, imageOf(t, spread(r, sample.Module(i))), sample.Input(r.Uint64()), 100000)
		if o.Stop == api.StopTrap {
			seen[o.Code]++
		}
	}
	if len(seen) != 3 || min(seen[api.TrapDiv], seen[api.TrapIndex], seen[api.TrapDepth]) < 20 {
		t.Errorf("%v", seen)
	}
}
