package switches_test

import (
	"math/rand"
	"testing"

	"switchback/api"
	"switchback/flow"
	"switchback/fold"
	"switchback/sample"
	"switchback/switches"
	"switchback/tails"
	"switchback/thread"
)

// found counts the switches of some modules, and the tables that came in their places.
type found struct {
	switches int
	tables   int
}

func (f *found) count(m, r api.Module) {
	for i := range m.Funcs {
		for _, b := range m.Funcs[i].Blocks {
			switch b.End.Kind {
			case api.EndSwitch:
				f.switches++
			case api.EndTable:
				f.tables--
			}
		}
		for _, b := range r.Funcs[i].Blocks {
			if b.End.Kind == api.EndTable {
				f.tables++
			}
		}
	}
}

func TestSampleModules(t *testing.T) {
	t.Parallel()
	r := rand.New(rand.NewSource(1))
	var f found
	for i := range uint64(5000) {
		m := sample.Module(i)
		f.count(m, means(t, m, 3000, sample.Input(r.Uint64()), sample.Input(r.Uint64())))
	}
	if f.switches < 5000 || f.tables < 1000 {
		t.Errorf("only %d switches, and %d tables for them", f.switches, f.tables)
	}
}

func TestSamplePrograms(t *testing.T) {
	t.Parallel()
	r := rand.New(rand.NewSource(2))
	var f found
	for i := range uint64(1000) {
		p, wrong := sample.Read(sample.Program(i))
		if wrong != "" {
			t.Fatal(wrong)
		}
		m, _ := flow.Lower(p)
		if i%2 == 0 {
			m, _ = fold.Fold(m)
			m, _ = thread.Thread(m)
			m, _ = tails.Merge(m)
		}
		f.count(m, means(t, m, 10000, sample.Input(r.Uint64())))
	}
	if f.switches < 1000 || f.tables < 100 {
		t.Errorf("only %d switches, and %d tables for them", f.switches, f.tables)
	}
}

// TestSomeNumbers has switches by numbers that lie in heaps, anywhere.
func TestSomeNumbers(t *testing.T) {
	t.Parallel()
	r := rand.New(rand.NewSource(3))
	for range 80 {
		chosen(t, someNumbers(r, 1+r.Intn(1+r.Intn(api.MaxTable)))...)
	}
}

// TestAllSets has switches by all sets of numbers below 8, some of them moved far away.
func TestAllSets(t *testing.T) {
	t.Parallel()
	for bits := range 1 << 8 {
		for _, far := range []uint32{0, 50, 1 << 31, top - 19} {
			var numbers []uint32
			for n := range uint32(8) {
				if bits>>n&1 == 1 {
					numbers = append(numbers, n*2+n/5*far)
				}
			}
			chosen(t, numbers...)
		}
	}
}

// TestAsIsPlanned has each table of a lowered switch be one of the plan's pieces, and each piece of more than one case a table.
func TestAsIsPlanned(t *testing.T) {
	t.Parallel()
	r := rand.New(rand.NewSource(4))
	for range 300 {
		numbers := someNumbers(r, 1+r.Intn(1+r.Intn(api.MaxTable)))
		plan, tables := switches.Plan(cases(numbers...)), 0
		for _, ends := range plan {
			if ends[0] != ends[1] {
				tables++
			}
		}
		if got := counts(lowered(t, choosing(numbers...))); got[1] != tables || got[0] != 2*len(plan)-1-tables {
			t.Fatalf("%d: %d EndIfs and EndTables for %d pieces, %d of them tables", numbers, got, len(plan), tables)
		}
	}
}
