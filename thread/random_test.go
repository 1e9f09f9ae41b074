package thread_test

import (
	"math/rand"
	"testing"

	"switchback/api"
	"switchback/flow"
	"switchback/fold"
	"switchback/graph"
	"switchback/sample"
)

func size(m api.Module) int {
	n := 0
	for _, g := range m.Funcs {
		blocks, code, _ := graph.Count(g)
		n += blocks + code
	}
	return n
}

func TestSampleModules(t *testing.T) {
	t.Parallel()
	r := rand.New(rand.NewSource(1))
	less := 0
	for i := range uint64(5000) {
		m := sample.Module(i)
		less += size(m) - size(means(t, m, 3000, sample.Input(r.Uint64()), sample.Input(r.Uint64())))
	}
	if less < 50000 {
		t.Errorf("only %d blocks and instructions fewer", less)
	}
}

func TestSamplePrograms(t *testing.T) {
	t.Parallel()
	r := rand.New(rand.NewSource(2))
	for i := range uint64(1200) {
		p, wrong := sample.Read(sample.Program(i))
		if wrong != "" {
			t.Fatal(wrong)
		}
		m, _ := flow.Lower(p)
		if i%2 == 0 {
			m, _ = fold.Fold(m)
		}
		means(t, m, 10000, sample.Input(r.Uint64()))
	}
}

// TestSkeletons has graphs most of whose blocks do nothing but lead on.
func TestSkeletons(t *testing.T) {
	t.Parallel()
	r := rand.New(rand.NewSource(3))
	for range 30000 {
		n := 1 + r.Intn(12)
		blocks := make([]api.Block, n)
		for b := range blocks {
			blocks[b] = block(skeletonEnd(r, n))
			if r.Intn(6) == 0 {
				blocks[b].Code = append(blocks[b].Code, reads(back(0)).Code...)
			}
			if r.Intn(6) == 0 {
				blocks[b].Code = append(blocks[b].Code, block(back(0), uint32('a'+b)).Code...)
			}
		}
		means(t, one(blocks...), 300, "", "\x00\x01\x02\x00\x01", sample.Input(r.Uint64()))
	}
}

func skeletonEnd(r *rand.Rand, n int) api.End {
	some := make([]int, 1+r.Intn(3))
	for i := range some {
		some[i] = r.Intn(n)
	}
	switch r.Intn(10) {
	case 0, 1:
		return either(r.Intn(n), r.Intn(n))
	case 2:
		return choose(r.Intn(n), some...)
	case 3:
		return table(r.Intn(n), some...)
	case 4:
		return back(0)
	}
	return to(r.Intn(n))
}

// TestAllOfThree has all graphs of three blocks, with something in them or not, that end with a return, a jump or an if.
func TestAllOfThree(t *testing.T) {
	t.Parallel()
	var shapes []api.Block
	for _, own := range [][]api.Ins{nil, {{Op: api.InsGetc, D: 0}, {Op: api.InsPutc, A: 0}}} {
		ends := []api.End{back(0)}
		for a := range 3 {
			ends = append(ends, to(a))
			for b := range 3 {
				ends = append(ends, either(a, b))
			}
		}
		for _, e := range ends {
			shapes = append(shapes, api.Block{Code: own, End: e})
		}
	}
	for _, a := range shapes {
		for _, b := range shapes {
			for _, c := range shapes {
				means(t, graph.Copy(one(a, b, c)), 60, "", "\x00\x01\x01\x00")
			}
		}
	}
}
