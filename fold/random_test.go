package fold_test

import (
	"math/rand"
	"testing"

	"switchback/api"
	"switchback/flow"
	"switchback/graph"
	"switchback/sample"
)

func TestSampleModules(t *testing.T) {
	t.Parallel()
	r := rand.New(rand.NewSource(1))
	less := 0
	for i := range uint64(6000) {
		m := sample.Module(i)
		f := folded(t, m)
		for range 2 {
			if s := sample.Unlike(m, f, sample.Input(r.Uint64()), 3000, asMany); s != "" {
				t.Fatalf("%d: %s\n%+v\n%+v", i, s, m, f)
			}
		}
		less += size(m) - size(f)
	}
	if less < 6000 {
		t.Errorf("only %d instructions fewer", less)
	}
}

func TestSamplePrograms(t *testing.T) {
	t.Parallel()
	r := rand.New(rand.NewSource(2))
	for i := range uint64(1500) {
		p, wrong := sample.Read(sample.Program(i))
		if wrong != "" {
			t.Fatal(wrong)
		}
		m, _ := flow.Lower(p)
		f := folded(t, m)
		for range 2 {
			if s := sample.Unlike(m, f, sample.Input(r.Uint64()), 10000, asMany); s != "" {
				t.Fatalf("%d: %s\n%s", i, s, sample.Program(i))
			}
		}
	}
}

func size(m api.Module) int {
	n := 0
	for _, g := range m.Funcs {
		_, code, _ := graph.Count(g)
		n += code
	}
	return n
}
