package frame_test

import (
	"math/rand"
	"slices"
	"testing"

	"switchback/alloc"
	"switchback/api"
	"switchback/flow"
	"switchback/graph"
	"switchback/sample"
)

// fits reads chapter 13: whether a graph fits.
func fits(g api.Graph) bool {
	sound := len(g.Blocks) > 0 && len(g.Blocks) <= 20000 && g.Temps >= 0 && g.Temps <= 8000
	isTemp := func(p *int) bool { return *p >= 0 && *p < g.Temps }
	for b := range g.Blocks {
		own := &g.Blocks[b]
		for _, to := range graph.Next(g, b) {
			sound = sound && to >= 0 && to < len(g.Blocks)
		}
		for k := range own.Code {
			uses, sets := sample.Temps(&own.Code[k])
			if sets != nil {
				uses = append(uses, sets)
			}
			for _, p := range uses {
				sound = sound && isTemp(p)
			}
			sound = sound && own.Code[k].Op > 0 && own.Code[k].Op < 33
		}
		for _, p := range sample.EndTemps(&own.End) {
			sound = sound && isTemp(p)
		}
		sound = sound && own.End.Kind > 0 && own.End.Kind < 6
	}
	return sound
}

// mayHave reads the chapter: whether a graph may have a frame.
func mayHave(g api.Graph) bool {
	sound := fits(g) && len(g.Params) < 9 && len(g.Arrays) < 501
	params := map[int]int{}
	for _, p := range g.Params {
		params[p]++
		sound = sound && p >= 0 && p < g.Temps && params[p] == 1
	}
	kinds := map[int]int{}
	words := 0
	for _, a := range g.Arrays {
		kinds[a.Kind]++
		if a.Kind == api.ArrayLocal {
			words += a.N
			sound = sound && a.N >= 1 && a.N <= 1000
		}
	}
	return sound && words <= 1000 && kinds[1]+kinds[2]+kinds[3] == len(g.Arrays) && kinds[3] < 9
}

// reading reads the chapter: the layout of a graph that may have a frame.
func reading(g api.Graph) api.Layout {
	var l api.Layout
	keeps := map[int]int{}
	l.Args = len(g.Params)
	for _, p := range g.Params {
		keeps[p]++
	}
	for _, a := range g.Arrays {
		switch a.Kind {
		case api.ArrayParam:
			l.Args += 2
		case api.ArrayLocal:
			l.Arrays += a.N
			keeps[0]++
		}
	}
	for _, b := range g.Blocks {
		for k := range b.Code {
			if _, sets := sample.Temps(&b.Code[k]); sets != nil {
				keeps[*sets]++
			}
		}
	}
	for r := range 9 {
		if keeps[r] > 0 || r < g.Temps && sample.Needed(g, r)[0][0] {
			l.Saved = append(l.Saved, r)
		}
	}
	if g.Temps > 9 {
		l.Slots = g.Temps - 9
	}
	l.Words = l.Args + len(l.Saved) + l.Slots + l.Arrays
	return l
}

// wild is a graph that mostly may have a frame; that it may be a module's is not seen to.
func wild(r *rand.Rand) api.Graph {
	n, all := 1+r.Intn(8), 1+r.Intn(14)
	if r.Intn(6) == 0 {
		all += r.Intn(200)
	}
	temp := func() int { return r.Intn(all) }
	if r.Intn(3) > 0 {
		few := r.Intn(all) + 1
		temp = func() int { return r.Intn(few) }
	}
	g := of(all, make([]api.Block, n)...)
	for b := range g.Blocks {
		for range r.Intn(4) {
			i := api.Ins{Op: 1 + r.Intn(api.InsExit), D: temp(), A: temp(), B: temp(), F: r.Intn(9) - 4}
			if i.Op == api.InsCall {
				i.D -= r.Intn(2) * (i.D + 1)
				i.Args = []int{temp(), temp()}[:r.Intn(3)]
			}
			g.Blocks[b].Code = append(g.Blocks[b].Code, i)
		}
		ends := []api.End{to(r.Intn(n)), back(temp()), back(-1), either(temp(), temp(), r.Intn(n), r.Intn(n))}
		g.Blocks[b].End = ends[r.Intn(len(ends))]
	}
	g.Params = r.Perm(all)[:min(all, r.Intn(9))]
	left := 1000
	for range r.Intn(6) {
		a := api.Array{Kind: 1 + r.Intn(3)}
		if a.Kind == api.ArrayLocal {
			a.N = 1 + r.Intn(left/2)
			left -= a.N
		}
		g.Arrays = append(g.Arrays, a)
	}
	return g
}

// spoil changes one number of a graph, mostly to one that it may not be.
func spoil(r *rand.Rand, g *api.Graph) {
	number := []int{-2, -1, 0, 1, 4, 9, g.Temps - 1, g.Temps, len(g.Blocks), 501, 1000, 1001, api.MaxTemps, api.MaxTemps + 1}[r.Intn(14)]
	places := []*int{&g.Temps}
	for i := range g.Params {
		places = append(places, &g.Params[i])
	}
	for i := range g.Arrays {
		places = append(places, &g.Arrays[i].N, &g.Arrays[i].Kind)
	}
	own := &g.Blocks[r.Intn(len(g.Blocks))]
	places = append(places, &own.End.Kind, &own.End.To, &own.End.A)
	for k := range own.Code {
		places = append(places, &own.Code[k].Op, &own.Code[k].D, &own.Code[k].A)
	}
	*places[r.Intn(len(places))] = number
}

// TestWildGraphs holds layouts of graphs, many of them spoilt, against the reading.
func TestWildGraphs(t *testing.T) {
	t.Parallel()
	r := rand.New(rand.NewSource(1))
	none := 0
	for range 40000 {
		g := wild(r)
		for range r.Intn(3) {
			spoil(r, &g)
		}
		if !mayHave(g) {
			refused(t, "spoilt", g)
			none++
			continue
		}
		if l, want := laid(t, g), reading(g); !same(l, want) {
			t.Fatalf("%+v, want %+v: %s", l, want, short(g))
		}
	}
	if none < 4000 || none > 36000 {
		t.Errorf("%d may have no frame", none)
	}
}

// TestFrameOfMore has graphs with an instruction more, or a temp (P19.3).
func TestFrameOfMore(t *testing.T) {
	t.Parallel()
	r := rand.New(rand.NewSource(2))
	greater := 0
	for range 20000 {
		g := wild(r)
		more := copyOf(g)
		if r.Intn(4) == 0 {
			more.Temps++
		} else {
			temp := func() int { return r.Intn(g.Temps) }
			own := &more.Blocks[r.Intn(len(more.Blocks))]
			i := []api.Ins{set(temp()), use(temp()), add(temp(), temp(), temp()), {Op: api.InsCall, D: temp(), Args: []int{temp()}}}[r.Intn(4)]
			own.Code = slices.Insert(own.Code, r.Intn(len(own.Code)+1), i)
		}
		a, b := laid(t, g), laid(t, more)
		if b.Words < a.Words {
			t.Fatalf("%+v, with more %+v: %s\n%s", a, b, short(g), short(more))
		}
		greater += b.Words - a.Words
	}
	if greater < 1000 {
		t.Errorf("only %d words more", greater)
	}
}

// allocated holds the frames of a module's functions against those that they have with locations (P19.4).
func allocated(t *testing.T, m api.Module) int {
	t.Helper()
	r, e := alloc.Alloc(m)
	if e != api.OK {
		t.Fatal(e)
	}
	less := 0
	for f, g := range m.Funcs {
		a, b := laid(t, g), laid(t, r.Funcs[f])
		if b.Words > a.Words+9 {
			t.Fatalf("%d: %+v, with locations %+v: %s", f, a, b, short(m))
		}
		less += a.Words - b.Words
	}
	return less
}

func TestFramesOfLocations(t *testing.T) {
	t.Parallel()
	less := 0
	for i := range uint64(4000) {
		less += allocated(t, sample.Module(i))
	}
	for i := range uint64(200) {
		p, wrong := sample.Read(sample.Program(i))
		if wrong != "" {
			t.Fatal(wrong)
		}
		m, _ := flow.Lower(p)
		less += allocated(t, m)
	}
	if less < 10000 {
		t.Errorf("only %d words less", less)
	}
}

// TestFramesOfSlotsAsLocations has functions whose temps are slots, and come into registers as locations: their frames become greater by what is kept.
func TestFramesOfSlotsAsLocations(t *testing.T) {
	for n := range 12 {
		var code []api.Ins
		for temp := range n {
			code = append(code, api.Ins{Op: api.InsGetc, D: 9 + temp})
		}
		for temp := range n {
			code = append(code, use(9+temp))
		}
		allocated(t, api.Module{Funcs: []api.Graph{of(9+n, block(back(-1), code...))}})
	}
}

// TestFiftyFramesFit has a module whose frames are as great as they may be: with all that is global, fifty of them are fewer words than the memory has (P19.2).
func TestFiftyFramesFit(t *testing.T) {
	g := with(of(api.MaxTemps, block(back(0))), 0, 1, 2, 3, 4, 5, 6, 7)
	g.Blocks[0].Code = []api.Ins{set(8)}
	g.Arrays = append(slices.Repeat([]api.Array{handed()}, 8), local(1000))
	is(t, g, 24, []int{0, 1, 2, 3, 4, 5, 6, 7, 8}, 7991, 1000, 9024)
	m := api.Module{Globals: make([]uint32, 200), Arrays: slices.Repeat([]int{1000}, 10), Funcs: []api.Graph{empty(0), g}}
	if _, _, e := graph.Check(m); e != api.OK {
		t.Fatal(e)
	}
	if words := 200 + 10000 + 50*laid(t, g).Words; words >= 524288 {
		t.Errorf("%d words", words)
	}
}
