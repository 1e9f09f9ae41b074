package loops_test

import (
	"math/rand"
	"slices"
	"testing"

	"switchback/api"
	"switchback/flow"
	"switchback/loops"
	"switchback/sample"
	"switchback/thread"
)

// subset are the numbers whose bits are set.
func subset(bits int) []int {
	var l []int
	for b := 0; bits>>b > 0; b++ {
		if bits>>b&1 == 1 {
			l = append(l, b)
		}
	}
	return l
}

// TestAllOfFour has all graphs of four blocks and fewer.
func TestAllOfFour(t *testing.T) {
	t.Parallel()
	for n := 1; n <= 4; n++ {
		reducible := 0
		for i := range 1 << (n * n) {
			l := make([][]int, n)
			for b := range l {
				l[b] = subset(i >> (b * n) & (1<<n - 1))
			}
			g := of(l...)
			x := whole(t, g)
			cuts(t, g, x)
			if x.reducible {
				reducible++
			}
		}
		if n > 2 && (reducible == 0 || reducible == 1<<(n*n)) || n <= 2 && reducible != 1<<(n*n) {
			t.Errorf("%d graphs of %d blocks are reducible", reducible, n)
		}
	}
}

// wild is a graph whose blocks lead anywhere, or mostly on to blocks close behind.
func wild(r *rand.Rand, n int, close bool) api.Graph {
	l := make([][]int, n)
	for b := range l {
		for range r.Intn(4) {
			to := r.Intn(n)
			if close && r.Intn(6) > 0 {
				to = min(b+1+r.Intn(3), n-1)
			}
			l[b] = append(l[b], to)
		}
	}
	return of(l...)
}

func TestWildGraphs(t *testing.T) {
	t.Parallel()
	r := rand.New(rand.NewSource(1))
	reducible, all := 0, 0
	for i := range 12000 {
		n := 1 + r.Intn(12)
		if i%20 == 0 {
			n = 1 + r.Intn(60)
		}
		g := wild(r, n, i%2 == 0)
		x := whole(t, g)
		cuts(t, g, x)
		all++
		if x.reducible && len(x.back) > 0 {
			reducible++
		}
	}
	if reducible < all/20 {
		t.Errorf("only %d of %d graphs have rings and are reducible", reducible, all)
	}
}

// TestOtherNumbers has the blocks but the block 0 numbered otherwise (P11.3).
func TestOtherNumbers(t *testing.T) {
	t.Parallel()
	r := rand.New(rand.NewSource(2))
	for i := range 5000 {
		g := wild(r, 1+r.Intn(15), i%2 == 0)
		turn := append([]int{0}, r.Perm(len(g.Blocks)-1)...)
		for b := range turn[1:] {
			turn[b+1]++
		}
		l := make([][]int, len(g.Blocks))
		for b, next := range nextOf(g) {
			for _, to := range next {
				l[turn[b]] = append(l[turn[b]], turn[to])
			}
		}
		other := of(l...)
		near := make([]int, len(g.Blocks))
		for b, a := range loops.Dominators(g) {
			near[turn[b]] = a
			if a > 0 {
				near[turn[b]] = turn[a]
			}
		}
		var back [][2]int
		for _, e := range loops.Back(g) {
			back = append(back, [2]int{turn[e[0]], turn[e[1]]})
		}
		slices.SortFunc(back, func(a, b [2]int) int { return slices.Compare(a[:], b[:]) })
		if got := loops.Dominators(other); !slices.Equal(got, near) {
			t.Fatalf("%d numbered %d: Dominators %d, want %d", nextOf(g), turn, got, near)
		}
		if got := loops.Back(other); !same(got, back) {
			t.Fatalf("%d numbered %d: Back %d, want %d", nextOf(g), turn, got, back)
		}
		if loops.Reducible(g) != loops.Reducible(other) {
			t.Fatalf("%d numbered %d: Reducible %v", nextOf(g), turn, loops.Reducible(g))
		}
	}
}

// TestMoreThatAreNotReached has blocks more behind the others (P11.2).
func TestMoreThatAreNotReached(t *testing.T) {
	t.Parallel()
	r := rand.New(rand.NewSource(3))
	for i := range 5000 {
		n, more := 1+r.Intn(10), 1+r.Intn(5)
		g := wild(r, n, i%2 == 0)
		reached := thread.Reached(g)
		l := nextOf(g)
		for range more {
			l = append(l, subset(r.Intn(1<<(n+more))))
		}
		for b := range n {
			if !slices.Contains(reached, b) && r.Intn(2) == 0 {
				l[b] = append(l[b], n+r.Intn(more))
			}
		}
		other := of(l...)
		near := loops.Dominators(g)
		for range more {
			near = append(near, -1)
		}
		if got := loops.Dominators(other); !slices.Equal(got, near) {
			t.Fatalf("%d: Dominators %d, want %d", l, got, near)
		}
		if back := loops.Back(g); !same(loops.Back(other), back) || loops.Reducible(g) != loops.Reducible(other) {
			t.Fatalf("%d: Back %d and %d, Reducible %v", l, back, loops.Back(other), loops.Reducible(other))
		}
	}
}

func TestSampleModules(t *testing.T) {
	t.Parallel()
	for i := range uint64(3000) {
		for _, g := range sample.Module(i).Funcs {
			cuts(t, g, whole(t, g))
		}
	}
}

func TestSamplePrograms(t *testing.T) {
	t.Parallel()
	reducible, all := 0, 0
	for i := range uint64(150) {
		p, wrong := sample.Read(sample.Program(i))
		if wrong != "" {
			t.Fatal(wrong)
		}
		m, _ := flow.Lower(p)
		m, _ = thread.Thread(m)
		for _, g := range m.Funcs {
			if len(g.Blocks) > 150 {
				continue
			}
			all++
			if whole(t, g).reducible {
				reducible++
			}
		}
	}
	if reducible == 0 || reducible == all {
		t.Errorf("%d of %d functions are reducible", reducible, all)
	}
}

// TestSources has functions out of sources: how many back edges they have, and whether they are reducible.
func TestSources(t *testing.T) {
	for src, want := range map[string]struct {
		back      int
		reducible bool
	}{
		"int main(){return 7;}": {0, true},
		"int main(){for(;;);}":  {1, true},
		"int main(){int i=3;while(--i)putc('a');do{i++;}while(i<9);return 0;}":                      {2, true},
		"int main(){int i,j;for(i=0;i<3;i++)for(j=0;j<3;j++)if(i!=j)putc('a');return 0;}":           {2, true},
		"int main(){int i=3;while(getc()){if(i==2)break;if(i==1)continue;i--;}return 0;}":           {2, true},
		"int main(){int i=0;l:if(i++<3)goto l;return 0;}":                                           {1, true},
		"int main(){if(getc())goto in;while(getc()){putc('x');in:putc('y');}return 0;}":             {0, false},
		"int main(){switch(getc()){case 0:do{putc('a');case 1:putc('b');}while(getc());}return 0;}": {0, false},
		"int main(){goto in;while(getc()){putc('x');in:putc('y');}return 0;}":                       {1, true},
	} {
		p, wrong := sample.Read(src)
		if wrong != "" {
			t.Fatalf("%s: %s", src, wrong)
		}
		m, _ := flow.Lower(p)
		m, _ = thread.Thread(m)
		x := whole(t, m.Funcs[0])
		if len(x.back) != want.back || x.reducible != want.reducible {
			t.Errorf("%s: %d, %v", src, x.back, x.reducible)
		}
	}
}
