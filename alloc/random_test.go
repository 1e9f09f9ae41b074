package alloc_test

import (
	"math/rand"
	"testing"

	"switchback/alloc"
	"switchback/api"
	"switchback/flow"
	"switchback/fold"
	"switchback/graph"
	"switchback/sample"
	"switchback/switches"
	"switchback/tails"
	"switchback/thread"
)

// some are fuels: a great one, and some by which runs mostly do not end.
func some(r *rand.Rand, great int) []int {
	return []int{great, r.Intn(10), r.Intn(100), r.Intn(1000)}
}

// temps counts the temps of a module's functions.
func temps(m api.Module) int {
	n := 0
	for _, g := range m.Funcs {
		n += g.Temps
	}
	return n
}

func TestSampleModules(t *testing.T) {
	t.Parallel()
	r := rand.New(rand.NewSource(1))
	less := 0
	for i := range uint64(4000) {
		m := sample.Module(i)
		less += temps(m) - temps(means(t, m, some(r, 3000), sample.Input(r.Uint64()), sample.Input(r.Uint64())))
	}
	if less < 3000 {
		t.Errorf("only %d temps less", less)
	}
}

// TestSpreadModules has modules whose temps are the same as others' of few names, spread among many.
func TestSpreadModules(t *testing.T) {
	t.Parallel()
	r := rand.New(rand.NewSource(2))
	for i := range uint64(1500) {
		m := sample.Module(i)
		for k := range m.Funcs {
			g := &m.Funcs[k]
			more := g.Temps + r.Intn(150)
			names := r.Perm(more)
			sample.Rename(g, func(temp int) int { return names[temp] })
			g.Temps = more
		}
		means(t, m, some(r, 2000), sample.Input(r.Uint64()))
	}
}

// lowered is the module of a program, as it comes out of some of the passes ahead.
func lowered(t *testing.T, number uint64) api.Module {
	t.Helper()
	p, wrong := sample.Read(sample.Program(number))
	if wrong != "" {
		t.Fatal(wrong)
	}
	m, _ := flow.Lower(p)
	passes := []func(api.Module) (api.Module, api.Errno){fold.Fold, thread.Thread, tails.Merge, switches.Lower, thread.Thread}
	for _, pass := range passes[:number%uint64(len(passes)+1)] {
		if passed, e := pass(m); e == api.OK {
			m = passed
		}
	}
	return m
}

func TestSamplePrograms(t *testing.T) {
	t.Parallel()
	r := rand.New(rand.NewSource(3))
	for i := range uint64(900) {
		m := lowered(t, i)
		if i < 90 {
			means(t, m, some(r, 10000), sample.Input(r.Uint64()))
			continue
		}
		runs(t, m, allocated(t, m), some(r, 10000), sample.Input(r.Uint64()), sample.Input(r.Uint64()))
	}
}

// TestControl has sources in which control goes wherever C lets it.
func TestControl(t *testing.T) {
	for _, x := range sample.Control() {
		p, wrong := sample.Read(x.Source)
		if wrong != "" {
			t.Fatal(wrong)
		}
		m, _ := flow.Lower(p)
		means(t, m, fuels(), "input")
	}
}

// TestFewAreNeeded has a source with many temps, few of which are needed at one time.
func TestFewAreNeeded(t *testing.T) {
	src := `int f(int a,int b){return a*b+(a-b)*(a+b)-a/(b|1);}
int main(){int n=0;for(int i=0;i<9;i++){int j=f(i,n);n=n+j;putc('0'+n%10u);}{int k=n;n=f(k,k);}{int l=n,m=l+1;n=f(l,m);}return n;}`
	p, wrong := sample.Read(src)
	if wrong != "" {
		t.Fatal(wrong)
	}
	m, _ := flow.Lower(p)
	for i, g := range means(t, m, fuels(), "").Funcs {
		if g.Temps > 5 || m.Funcs[i].Temps < 10 {
			t.Errorf("%d temps, %d locations", m.Funcs[i].Temps, g.Temps)
		}
	}
}

// wild is a module of two functions, the second of which is called by the first, and makes temps meet anyhow.
func wild(r *rand.Rand) api.Module {
	all := 1 + r.Intn(40)
	g := with(of(all, make([]api.Block, 1+r.Intn(6))...), r.Perm(all)[:min(all, r.Intn(4))]...)
	n := len(g.Blocks)
	for b := range g.Blocks {
		var code []api.Ins
		for range r.Intn(20) {
			code = append(code, []api.Ins{getc(r.Intn(all)), putc(r.Intn(all)), add(r.Intn(all), r.Intn(all), r.Intn(all))}[r.Intn(3)])
		}
		ends := []api.End{to(r.Intn(n)), back(r.Intn(all)), either(r.Intn(all), r.Intn(all), r.Intn(n), r.Intn(n)), choose(r.Intn(all), r.Intn(n), r.Intn(n), r.Intn(n)), table(r.Intn(all), r.Intn(n), r.Intn(n))}
		g.Blocks[b] = block(ends[r.Intn(len(ends))], code...)
	}
	return api.Module{Funcs: []api.Graph{of(2, block(back(1), getc(0), call(1, make([]int, len(g.Params))...))), g}}
}

func TestWildFunctions(t *testing.T) {
	t.Parallel()
	r := rand.New(rand.NewSource(4))
	for range 4000 {
		means(t, wild(r), some(r, 500), "", sample.Input(r.Uint64()))
	}
}

// TestMixed has tails and alloc one behind the other, again and again: what comes out means the same.
func TestMixed(t *testing.T) {
	t.Parallel()
	r := rand.New(rand.NewSource(5))
	for i := range uint64(1500) {
		m := sample.Module(i)
		if i%10 == 0 {
			m = lowered(t, i)
		}
		mixed, most := graph.Copy(m), 1
		for range 1 + r.Intn(4) {
			if r.Intn(2) == 0 {
				mixed, _ = alloc.Alloc(mixed)
				continue
			}
			mixed, _ = tails.Merge(mixed)
			most *= 2
		}
		if s := sample.Unlike(m, mixed, sample.Input(r.Uint64()), 3000, func(n int) int { return most * n }); s != "" {
			t.Fatalf("%d: %s\n%s\n%s", i, s, short(m), short(mixed))
		}
	}
}
