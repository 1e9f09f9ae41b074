package live_test

import (
	"math/rand"
	"slices"
	"testing"

	"switchback/api"
	"switchback/flow"
	"switchback/fold"
	"switchback/graph"
	"switchback/live"
	"switchback/sample"
	"switchback/thread"
)

// wild is a graph that fits; that it may be a module's is not seen to.
func wild(r *rand.Rand) api.Graph {
	n, all := 1+r.Intn(12), 1+r.Intn(8)
	if r.Intn(3) == 0 {
		all += 60 + r.Intn(100)
	}
	// Few of many temps are named, so that they meet one another.
	temp := func() int { return r.Intn(min(all, 4)) * (all - 1) / min(all, 4) }
	g := of(all, make([]api.Block, n)...)
	for b := range g.Blocks {
		for range r.Intn(4) {
			i := api.Ins{Op: 1 + r.Intn(api.InsExit), D: temp(), A: temp(), B: temp(), F: r.Intn(9) - 4}
			for range r.Intn(4) {
				i.Args = append(i.Args, temp())
			}
			if r.Intn(3) == 0 {
				i.Op = api.InsCall
				i.D = max(i.D, r.Intn(2)) - 1
			}
			g.Blocks[b].Code = append(g.Blocks[b].Code, i)
		}
		g.Blocks[b].End = wildEnd(r, n, temp)
	}
	return g
}

func wildEnd(r *rand.Rand, n int, temp func() int) api.End {
	some := make([]int, r.Intn(4))
	for i := range some {
		some[i] = r.Intn(n)
	}
	switch r.Intn(8) {
	case 0:
		return back(temp())
	case 1:
		return back(-1)
	case 2:
		return choose(temp(), r.Intn(n), some...)
	case 3:
		return table(temp(), r.Intn(n), some...)
	case 4, 5:
		return either(temp(), temp(), r.Intn(n), r.Intn(n))
	}
	return to(r.Intn(n))
}

func TestWildGraphs(t *testing.T) {
	t.Parallel()
	r := rand.New(rand.NewSource(1))
	some := 0
	for range 20000 {
		for _, l := range whole(t, wild(r)) {
			some += len(l)
		}
	}
	if some < 100000 {
		t.Errorf("only %d temps are needed", some)
	}
}

func TestSampleModules(t *testing.T) {
	t.Parallel()
	for i := range uint64(2500) {
		for _, g := range sample.Module(i).Funcs {
			whole(t, g)
		}
	}
}

// lowered is the module of a program, as it comes out of flow, or behind two passes.
func lowered(t *testing.T, number uint64) api.Module {
	t.Helper()
	p, wrong := sample.Read(sample.Program(number))
	if wrong != "" {
		t.Fatal(wrong)
	}
	m, _ := flow.Lower(p)
	if number%2 == 0 {
		m, _ = fold.Fold(m)
		m, _ = thread.Thread(m)
	}
	return m
}

func TestSamplePrograms(t *testing.T) {
	t.Parallel()
	for i := range uint64(60) {
		for _, g := range lowered(t, i).Funcs {
			if g.Temps < 300 {
				whole(t, g)
			}
		}
	}
}

// TestRenamed gives temps other names, unlike ones to unlike ones (P13.3).
func TestRenamed(t *testing.T) {
	t.Parallel()
	r := rand.New(rand.NewSource(2))
	for range 3000 {
		g := wild(r)
		other := graph.Copy(api.Module{Funcs: []api.Graph{g}}).Funcs[0]
		other.Temps = g.Temps + r.Intn(300)
		if r.Intn(20) == 0 {
			other.Temps = api.MaxTemps
		}
		names := r.Perm(other.Temps)
		sample.Rename(&other, func(temp int) int { return names[temp] })
		want := needs(t, g)
		for _, l := range want {
			for i := range l {
				l[i] = names[l[i]]
			}
			slices.Sort(l)
		}
		if got := needs(t, other); !same(got, want) {
			t.Fatalf("%d, want %d: %s", got, want, short(other))
		}
	}
}

// sets is an instruction that sets a temp, and does nothing else that can be seen.
func sets(r *rand.Rand, temp, all int) api.Ins {
	switch r.Intn(3) {
	case 0:
		return api.Ins{Op: api.InsConst, D: temp, N: r.Uint32()}
	case 1:
		return api.Ins{Op: api.InsMove + r.Intn(4), D: temp, A: r.Intn(all)}
	}
	return api.Ins{Op: api.InsEq + r.Intn(6), D: temp, A: r.Intn(all), B: r.Intn(all)}
}

// turned is a copy of a module with an instruction more at the beginning of some blocks, each of which sets a temp that is not needed there; and how many these are.
func turned(r *rand.Rand, m api.Module) (api.Module, int) {
	m = graph.Copy(m)
	more := 0
	for _, g := range m.Funcs {
		needed, _ := live.Live(g)
		for b := range g.Blocks {
			if g.Temps == 0 || r.Intn(3) == 0 {
				continue
			}
			temp := r.Intn(g.Temps)
			if !slices.Contains(needed[b], temp) {
				own := &g.Blocks[b]
				own.Code = slices.Insert(own.Code, 0, sets(r, temp, g.Temps))
				more++
			}
		}
	}
	return m, more
}

// without is a copy of a module without some of the instructions that do nothing but set a temp which is not needed behind them; and how many these are. Of each block one is left out at most: the others stand elsewhere then.
func without(r *rand.Rand, m api.Module) (api.Module, int) {
	m = graph.Copy(m)
	less := 0
	for _, g := range m.Funcs {
		needed, _ := live.Live(g)
		for b := range g.Blocks {
			own := &g.Blocks[b]
			for _, k := range r.Perm(len(own.Code)) {
				if onlySets(own.Code[k].Op) && !neededBehind(g, needed, b, k) {
					own.Code = slices.Delete(own.Code, k, k+1)
					less++
					break
				}
			}
		}
	}
	return m, less
}

func onlySets(op int) bool {
	divides := op >= api.InsDivS && op <= api.InsRemU
	return op == api.InsConst || op == api.InsLoad || op >= api.InsMove && op <= api.InsLeU && !divides
}

// neededBehind tells whether what an instruction sets is needed behind it, by what is needed at the beginnings of blocks.
func neededBehind(g api.Graph, needed [][]int, b, k int) bool {
	rest := api.Block{Code: g.Blocks[b].Code[k+1:], End: g.Blocks[b].End}
	temp := g.Blocks[b].Code[k].D
	uses, sets := touches(&rest, temp)
	for _, next := range graph.Next(g, b) {
		uses = uses || !sets && slices.Contains(needed[next], temp)
	}
	return uses
}

// changed holds runs of some modules, changed in a way, against those of the modules.
func changed(t *testing.T, r *rand.Rand, change func(r *rand.Rand, m api.Module) (api.Module, int), most func(n int) int) {
	t.Helper()
	changes := 0
	for i := range uint64(5000) {
		m, fuel := sample.Module(i), 3000
		if i%10 == 0 {
			m, fuel = lowered(t, i/10), 10000
		}
		other, n := change(r, m)
		changes += n
		for range 2 {
			if s := sample.Unlike(m, other, sample.Input(r.Uint64()), fuel, most); s != "" {
				t.Fatalf("%d: %s\n%s\n%s", i, s, short(m), short(other))
			}
		}
	}
	if changes < 30000 {
		t.Errorf("only %d changes", changes)
	}
}

// TestTurned puts instructions that set what is not needed to blocks' beginnings (P13.4).
func TestTurned(t *testing.T) {
	t.Parallel()
	changed(t, rand.New(rand.NewSource(3)), turned, func(n int) int { return 2 * n })
}

// TestLeftOut leaves out instructions that set what is not needed behind them (P13.5).
func TestLeftOut(t *testing.T) {
	t.Parallel()
	changed(t, rand.New(rand.NewSource(4)), without, func(n int) int { return n })
}
