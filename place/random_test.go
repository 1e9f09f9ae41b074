package place_test

import (
	"math/rand"
	"slices"
	"testing"

	"switchback/alloc"
	"switchback/api"
	"switchback/flow"
	"switchback/fold"
	"switchback/graph"
	"switchback/loops"
	"switchback/place"
	"switchback/run"
	"switchback/sample"
	"switchback/switches"
	"switchback/tails"
	"switchback/thread"
)

// anyOrder is any order of a graph of n blocks.
func anyOrder(r *rand.Rand, n int) []int {
	order := append([]int{0}, r.Perm(n-1)...)
	for i := range order[1:] {
		order[i+1]++
	}
	return order
}

// inOrders lays each graph of a module in an order.
func inOrders(t *testing.T, m api.Module, orderOf func(g api.Graph) []int) api.Module {
	t.Helper()
	m = graph.Copy(m)
	for i, g := range m.Funcs {
		m.Funcs[i] = laid(t, g, orderOf(g))
	}
	if _, _, e := graph.Check(m); e != api.OK {
		t.Fatalf("may not be: %d: %s", e, short(m))
	}
	return m
}

// runsAlike checks that runs of two modules have the same outcome, Steps too (P15.1).
func runsAlike(t *testing.T, m, r api.Module, fuels []int, inputs ...string) {
	t.Helper()
	for _, input := range inputs {
		for _, fuel := range fuels {
			a, e := run.Run(m, input, fuel)
			b, f := run.Run(r, input, fuel)
			if e != api.OK || f != api.OK || a != b {
				t.Fatalf("%q, %d: %+v, ahead %+v\n%s\n%s", input, fuel, b, a, short(m), short(r))
			}
		}
	}
}

// means checks the orders of a module's graphs, and that a module laid in them, or in any others, runs as ahead.
func means(t *testing.T, r *rand.Rand, m api.Module, fuels []int, inputs ...string) {
	t.Helper()
	runsAlike(t, m, inOrders(t, m, func(g api.Graph) []int { return placed(t, g) }), fuels, inputs...)
	runsAlike(t, m, inOrders(t, m, func(g api.Graph) []int { return anyOrder(r, len(g.Blocks)) }), fuels, inputs...)
}

// some are fuels: a great one, and some by which runs mostly do not end.
func some(r *rand.Rand, great int) []int {
	return []int{great, r.Intn(10), r.Intn(100), r.Intn(1000)}
}

// around checks that of a graph that was laid in an order the dominators and the back edges are those of the graph, and that it is as reducible (P15.3).
func around(t *testing.T, g, r api.Graph, order []int) {
	t.Helper()
	at := make([]int, len(order))
	for i, b := range order {
		at[b] = i
	}
	near := make([]int, len(order))
	for b, a := range loops.Dominators(g) {
		near[at[b]] = a
		if a >= 0 {
			near[at[b]] = at[a]
		}
	}
	var back [][2]int
	for _, e := range loops.Back(g) {
		back = append(back, [2]int{at[e[0]], at[e[1]]})
	}
	slices.SortFunc(back, func(a, b [2]int) int { return slices.Compare(a[:], b[:]) })
	if got := loops.Dominators(r); !slices.Equal(got, near) {
		t.Fatalf("%d: Dominators %d, want %d: %s", order, got, near, short(g))
	}
	if got := loops.Back(r); !slices.Equal(got, back) {
		t.Fatalf("%d: Back %d, want %d: %s", order, got, back, short(g))
	}
	if loops.Reducible(r) != loops.Reducible(g) {
		t.Fatalf("%d: Reducible %v: %s", order, loops.Reducible(r), short(g))
	}
}

// subset are the numbers whose bits are set.
func subset(bits int) []int {
	var l []int
	for b := 0; bits>>b > 0; b++ {
		if bits>>b&1 == 1 {
			l = append(l, b)
		}
	}
	return l
}

// TestAllOfFour has all graphs of four blocks and fewer, by which of them each leads to; some are laid in orders other than theirs.
func TestAllOfFour(t *testing.T) {
	t.Parallel()
	orders := [][]int{{0, 1, 2, 3}, {0, 1, 3, 2}, {0, 2, 1, 3}, {0, 2, 3, 1}, {0, 3, 1, 2}, {0, 3, 2, 1}}
	for n := 1; n <= 4; n++ {
		for i := range 1 << (n * n) {
			l := make([][]int, n)
			for b := range l {
				l[b] = subset(i >> (b * n) & (1<<n - 1))
			}
			g := of(l...)
			order := placed(t, g)
			if n == 4 && i%7 == 0 {
				order = orders[i%len(orders)]
			}
			if n < 4 || i%3 == 0 {
				around(t, g, laid(t, g, order), order)
			}
		}
	}
}

// TestEndsOfFour has every third one of the graphs of four blocks that end with a return, a jump, an if, or a table with an other one.
func TestEndsOfFour(t *testing.T) {
	t.Parallel()
	const n = 4
	ends := []api.End{back(0)}
	for a := range n {
		ends = append(ends, to(a))
		for b := range n {
			ends = append(ends, either(a, b))
		}
	}
	ends = append(ends, table(1, 1), table(1, 2), choose(2), choose(3, 1))
	for i, a := range ends {
		for j, b := range ends {
			for k, c := range ends {
				for l, d := range ends {
					if (i+j+k+l)%3 == 0 {
						placed(t, ended(a, b, c, d))
					}
				}
			}
		}
	}
}

// wild is a graph whose blocks lead anywhere, or mostly each to the one behind it by other numbers; how many ways lead on from each is at most so many.
func wild(r *rand.Rand, n, ways int) api.Graph {
	names := anyOrder(r, n)
	l := make([][]int, n)
	for i, b := range names {
		for range min(r.Intn(8), 1+r.Intn(ways)) {
			next := r.Intn(n)
			if r.Intn(5) > 0 {
				next = names[(i+1+r.Intn(2))%n]
			}
			l[b] = append(l[b], next)
		}
	}
	return of(l...)
}

func TestWildGraphs(t *testing.T) {
	t.Parallel()
	r := rand.New(rand.NewSource(1))
	asked, loose := 0, 0
	for i := range 40000 {
		n := 1 + r.Intn(12)
		if i%20 == 0 {
			n = 1 + r.Intn(80)
		}
		g := wild(r, n, 1+r.Intn(4))
		order := placed(t, g)
		x := read(g)
		for _, a := range x.reached {
			asked += len(x.behind(a))
		}
		loose += n - len(x.reached)
		if i%2 == 0 {
			order = anyOrder(r, n)
		}
		around(t, g, laid(t, g, order), order)
	}
	if asked < 40000 || loose < 40000 {
		t.Errorf("%d blocks may stand behind others, %d are not reached", asked, loose)
	}
}

func TestSampleModules(t *testing.T) {
	t.Parallel()
	r := rand.New(rand.NewSource(2))
	for i := range uint64(3000) {
		means(t, r, sample.Module(i), some(r, 3000), sample.Input(r.Uint64()), sample.Input(r.Uint64()))
	}
}

// lowered is the module of a program, as it comes out of some of the passes ahead.
func lowered(t *testing.T, number uint64) api.Module {
	t.Helper()
	p, wrong := sample.Read(sample.Program(number))
	if wrong != "" {
		t.Fatal(wrong)
	}
	m, _ := flow.Lower(p)
	passes := []func(api.Module) (api.Module, api.Errno){fold.Fold, thread.Thread, tails.Merge, switches.Lower, thread.Thread, alloc.Alloc}
	for _, pass := range passes[:number%uint64(len(passes)+1)] {
		if passed, e := pass(m); e == api.OK {
			m = passed
		}
	}
	return m
}

func TestSamplePrograms(t *testing.T) {
	t.Parallel()
	r := rand.New(rand.NewSource(3))
	for i := range uint64(700) {
		m := lowered(t, i)
		means(t, r, m, some(r, 10000), sample.Input(r.Uint64()))
		for _, g := range m.Funcs {
			order := anyOrder(r, len(g.Blocks))
			if i%10 == 0 {
				around(t, g, laid(t, g, order), order)
			}
		}
	}
}

// TestControl has sources in which control goes wherever C lets it.
func TestControl(t *testing.T) {
	r := rand.New(rand.NewSource(4))
	var fuels []int
	for n := range 60 {
		fuels = append(fuels, n, 20*n)
	}
	for _, x := range sample.Control() {
		p, wrong := sample.Read(x.Source)
		if wrong != "" {
			t.Fatal(wrong)
		}
		m, _ := flow.Lower(p)
		means(t, r, m, fuels, "input")
	}
}

// reorder is a pass that lays each graph in the order that is told of it.
func reorder(t *testing.T, m api.Module) api.Module {
	t.Helper()
	m = graph.Copy(m)
	for i, g := range m.Funcs {
		order, e := place.Place(g)
		if e != api.OK {
			t.Fatal(e)
		}
		if m.Funcs[i], e = place.Reorder(g, order); e != api.OK {
			t.Fatal(e)
		}
	}
	return m
}

// TestMixed has tails, alloc and this layer one behind the other, again and again: what comes out means the same (P15.4).
func TestMixed(t *testing.T) {
	t.Parallel()
	r := rand.New(rand.NewSource(5))
	for i := range uint64(2000) {
		m := sample.Module(i)
		if i%10 == 0 {
			m = lowered(t, i)
		}
		mixed, most := graph.Copy(m), 1
		for range 1 + r.Intn(6) {
			var e api.Errno
			switch r.Intn(3) {
			case 0:
				mixed, e = alloc.Alloc(mixed)
			case 1:
				mixed, e = tails.Merge(mixed)
				most *= 2
			default:
				mixed = reorder(t, mixed)
			}
			if e != api.OK {
				t.Fatalf("%d: %d", i, e)
			}
		}
		if s := sample.UnlikeHead(m, mixed); s != "" {
			t.Fatalf("%d: %s", i, s)
		}
		if s := sample.Unlike(m, mixed, sample.Input(r.Uint64()), 3000, func(n int) int { return most * n }); s != "" {
			t.Fatalf("%d: %s\n%s\n%s", i, s, short(m), short(mixed))
		}
	}
}
