package emit_test

import (
	"math/rand"
	"reflect"
	"testing"

	"switchback/alloc"
	"switchback/api"
	"switchback/emit"
	"switchback/flow"
	"switchback/fold"
	"switchback/graph"
	"switchback/place"
	"switchback/relax"
	"switchback/sample"
	"switchback/switches"
	"switchback/tails"
	"switchback/thread"
)

func TestSampleModules(t *testing.T) {
	t.Parallel()
	r := rand.New(rand.NewSource(1))
	for i := range uint64(3000) {
		means(t, sample.Module(i), 3000, sample.Input(r.Uint64()), sample.Input(r.Uint64()))
	}
}

// spread is a module the temps of whose functions have other names, among more of them: so some are registers, and some are slots.
func spread(r *rand.Rand, m api.Module, more int) api.Module {
	m = graph.Copy(m)
	for k := range m.Funcs {
		g := &m.Funcs[k]
		all := g.Temps + r.Intn(more+1)
		names := r.Perm(all)
		sample.Rename(g, func(temp int) int { return names[temp] })
		g.Temps = all
	}
	return m
}

func TestSpreadModules(t *testing.T) {
	t.Parallel()
	r := rand.New(rand.NewSource(2))
	for i := range uint64(3000) {
		m := spread(r, sample.Module(i), 1+r.Intn(20))
		if i%50 == 0 {
			m = spread(r, m, api.MaxTemps/2)
		}
		means(t, m, 3000, sample.Input(r.Uint64()), sample.Input(r.Uint64()))
	}
}

// lowered is the module of a program, as it comes out of some of the passes ahead.
func lowered(t *testing.T, p api.Program, passed int) api.Module {
	t.Helper()
	m, e := flow.Lower(p)
	if e != api.OK {
		t.Fatal(e)
	}
	passes := []func(api.Module) (api.Module, api.Errno){fold.Fold, thread.Thread, tails.Merge, switches.Lower, thread.Thread, alloc.Alloc}
	for _, pass := range passes[:passed] {
		if result, e := pass(m); e == api.OK {
			m = result
		}
	}
	return m
}

func TestSamplePrograms(t *testing.T) {
	t.Parallel()
	r := rand.New(rand.NewSource(3))
	for i := range uint64(700) {
		p, wrong := sample.Read(sample.Program(i))
		if wrong != "" {
			t.Fatal(wrong)
		}
		means(t, lowered(t, p, int(i%7)), 10000, sample.Input(r.Uint64()), sample.Input(r.Uint64()))
	}
}

// TestControl has sources in which control goes wherever C lets it, ahead of the passes, and behind each.
func TestControl(t *testing.T) {
	for _, x := range sample.Control() {
		p, wrong := sample.Read(x.Source)
		if wrong != "" {
			t.Fatal(wrong)
		}
		for passed := range 7 {
			ends(t, lowered(t, p, passed), "input", api.StopExit, 0, x.Output)
		}
	}
}

// TestOtherOrders has modules whose blocks, but the block 0, are numbered otherwise.
func TestOtherOrders(t *testing.T) {
	t.Parallel()
	r := rand.New(rand.NewSource(4))
	for i := range uint64(1500) {
		m := graph.Copy(sample.Module(i))
		for k, g := range m.Funcs {
			order := []int{0}
			for _, b := range r.Perm(len(g.Blocks) - 1) {
				order = append(order, b+1)
			}
			laid, e := place.Reorder(g, order)
			if e != api.OK {
				t.Fatal(e)
			}
			m.Funcs[k] = laid
		}
		means(t, m, 2000, sample.Input(r.Uint64()))
	}
}

// TestShifted has functions whose labels begin elsewhere (P20.3).
func TestShifted(t *testing.T) {
	t.Parallel()
	r := rand.New(rand.NewSource(5))
	for i := range uint64(1500) {
		m := sample.Module(i)
		f, label := r.Intn(len(m.Funcs)), len(m.Funcs)+r.Intn(50)
		l, next := emitted(t, m, f, label)
		by := r.Intn(api.MaxLabel - next)
		other, after := emitted(t, m, f, label+by)
		if after != next+by || !reflect.DeepEqual(other, moved(l, by)) {
			t.Fatalf("%d, %d from %d on: %s\nfrom %d on: %s", i, f, label, short(l), label+by, short(other))
		}
	}
}

// TestApart has functions beside which others do other things (P20.2).
func TestApart(t *testing.T) {
	t.Parallel()
	r := rand.New(rand.NewSource(6))
	for i := range uint64(1500) {
		m := sample.Module(i)
		f := r.Intn(len(m.Funcs))
		l, next := emitted(t, m, f, len(m.Funcs))
		other := graph.Copy(m)
		for k, g := range other.Funcs {
			if k == f {
				continue
			}
			blocks := []api.Block{block(back(-1)), block(to(1)), block(back(-1))}
			if g.Temps > 0 {
				blocks[1].Code = []api.Ins{getc(0), putc(g.Temps - 1), call(0, m.Main)}
			}
			other.Funcs[k].Blocks = blocks[r.Intn(2):]
		}
		got, after := emitted(t, other, f, len(m.Funcs))
		if after != next || !reflect.DeepEqual(got, l) {
			t.Fatalf("%d, %d: %s\nbeside others: %s", i, f, short(l), short(got))
		}
	}
}

// TestTaken has all functions of modules, some of them too many lines or words: their lines are refused for their size alone (P20.1).
func TestTaken(t *testing.T) {
	t.Parallel()
	r := rand.New(rand.NewSource(7))
	for i := range uint64(1200) {
		m := sample.Module(i)
		var all []api.Line
		label := len(m.Funcs) + r.Intn(3)*r.Intn(40000)
		for _, f := range r.Perm(len(m.Funcs)) {
			l, next := emitted(t, m, f, label)
			all = append(all, l...)
			label = next + r.Intn(3)*r.Intn(100)
		}
		a, line, e := relax.Assemble(all)
		if e != api.OK || len(a.Words) > longWords(all) {
			t.Fatalf("%d: the line %d: %d; %d words, all long %d", i, line, e, len(a.Words), longWords(all))
		}
	}
}

// TestTakenButForSize has modules whose lines, all together, are too many, or make too many words, or just not.
func TestTakenButForSize(t *testing.T) {
	var m api.Module
	for range api.MaxFuncs {
		g := fn(9, block(back(-1)))
		for range 300 {
			g.Blocks[0].Code = append(g.Blocks[0].Code, set(0, 1<<20), load(1, 0))
		}
		m.Funcs = append(m.Funcs, g)
	}
	m.Globals = []uint32{1}
	seen := map[api.Errno]int{}
	for n := range api.MaxFuncs {
		var all []api.Line
		label := len(m.Funcs)
		for f := range n + 1 {
			l, next, e := emit.Emit(m, f, label)
			if e != api.OK {
				t.Fatal(e)
			}
			all = append(all, l...)
			label = next
		}
		_, _, e := relax.Assemble(all)
		seen[e]++
		if e != api.OK && e != api.ErrTooBig && e != api.ErrLong || (e == api.ErrLong) != (len(all) > api.MaxLines) {
			t.Fatalf("%d functions: %d lines: %d", n, len(all), e)
		}
	}
	if seen[api.OK] == 0 || seen[api.ErrTooBig] == 0 {
		t.Errorf("%v", seen)
	}
}
