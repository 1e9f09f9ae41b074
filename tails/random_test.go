package tails_test

import (
	"math/rand"
	"testing"

	"switchback/api"
	"switchback/flow"
	"switchback/fold"
	"switchback/graph"
	"switchback/sample"
	"switchback/thread"
)

// fewer tells how many instructions one module has fewer than another one.
func fewer(m, r api.Module) int {
	n := 0
	for i, g := range r.Funcs {
		_, code, _ := graph.Count(m.Funcs[i])
		_, left, _ := graph.Count(g)
		n += code - left
	}
	return n
}

func TestSampleModules(t *testing.T) {
	t.Parallel()
	r := rand.New(rand.NewSource(1))
	less := 0
	for i := range uint64(5000) {
		m := sample.Module(i)
		less += fewer(m, means(t, m, 3000, sample.Input(r.Uint64()), sample.Input(r.Uint64())))
	}
	if less < 10000 {
		t.Errorf("only %d instructions fewer", less)
	}
}

func TestSamplePrograms(t *testing.T) {
	t.Parallel()
	r := rand.New(rand.NewSource(2))
	less := 0
	for i := range uint64(500) {
		p, wrong := sample.Read(sample.Program(i))
		if wrong != "" {
			t.Fatal(wrong)
		}
		m, _ := flow.Lower(p)
		if i%2 == 0 {
			m, _ = fold.Fold(m)
			m, _ = thread.Thread(m)
		}
		less += fewer(m, means(t, m, 10000, sample.Input(r.Uint64())))
	}
	if less < 200 {
		t.Errorf("only %d instructions fewer", less)
	}
}

// TestFewSorts has graphs made of few sorts of instructions and ends, so that much ends alike.
func TestFewSorts(t *testing.T) {
	t.Parallel()
	r := rand.New(rand.NewSource(3))
	for range 15000 {
		n := 1 + r.Intn(12)
		blocks := make([]api.Block, n)
		for b := range blocks {
			letters := ""
			for range r.Intn(5) {
				letters += string("gpnnppa"[r.Intn(7)])
			}
			blocks[b] = block(oneOfFew(r, n), letters)
		}
		means(t, one(blocks...), 300, "", "\x00\x01\x02\x00\x01", sample.Input(r.Uint64()))
	}
}

func oneOfFew(r *rand.Rand, n int) api.End {
	a, b := r.Intn(n), r.Intn(min(n, 3))
	switch r.Intn(10) {
	case 0, 1:
		return either(a, b)
	case 2:
		return choose(b, a, b)
	case 3:
		return table(a, b, b)
	case 4, 5:
		return back(0)
	case 6:
		return to(a)
	}
	return to(b)
}

// TestAllOfThree has all graphs of three blocks of few sorts.
func TestAllOfThree(t *testing.T) {
	t.Parallel()
	var shapes []api.Block
	for _, e := range []api.End{back(0), to(0), to(1), to(2), either(1, 2)} {
		for _, letters := range []string{"", "g", "p", "gp", "pp", "gpp"} {
			shapes = append(shapes, block(e, letters))
		}
	}
	for _, a := range shapes {
		for _, b := range shapes {
			for _, c := range shapes {
				means(t, graph.Copy(one(a, b, c)), 60, "\x00\x01\x01\x00")
			}
		}
	}
}
