package run_test

import (
	"math/rand"
	"reflect"
	"strings"
	"testing"

	"switchback/api"
	"switchback/graph"
	"switchback/run"
	"switchback/sample"
)

func TestSamplesRunAsInTheSecondWay(t *testing.T) {
	r := rand.New(rand.NewSource(5))
	for i := range uint64(8000) {
		m := sample.Module(i)
		input, fuel := sample.Input(r.Uint64()), 1500+r.Intn(100)
		ahead := graph.Copy(m)
		o := ran(t, m, input, fuel)
		want, asked := runAgain(m, input, fuel)
		if o != want {
			t.Fatalf("%d: %+v, want %+v\n%+v", i, o, want, m)
		}
		if !reflect.DeepEqual(ahead, m) {
			t.Fatalf("%d: a run changes the module", i)
		}
		for range 4 {
			otherFuel(t, m, input, o, r.Intn(o.Steps+3))
		}
		if asked <= len(input) {
			if x := ran(t, m, input[:asked]+sample.Input(r.Uint64()), fuel); x != o {
				t.Fatalf("%d: %+v, with another rest of the input %+v", i, o, x)
			}
		}
	}
}

// otherFuel is P6.2: with more fuel a run that ends is the same; one that stops by fuel has a beginning of the output, and took just as many steps.
func otherFuel(t *testing.T, m api.Module, input string, o api.Outcome, fuel int) {
	t.Helper()
	x := ran(t, m, input, fuel)
	switch {
	case o.Stop != api.StopFuel && fuel >= o.Steps:
		if x != o {
			t.Fatalf("%+v with a fuel of %d: %+v", o, fuel, x)
		}
	case fuel <= o.Steps:
		if x.Stop != api.StopFuel || x.Code != 0 || x.Steps != fuel || !strings.HasPrefix(o.Output, x.Output) {
			t.Fatalf("%+v with a fuel of %d: %+v", o, fuel, x)
		}
	}
}

func TestSpoiltModulesAreNoArgument(t *testing.T) {
	for i := range uint64(200) {
		m := sample.Module(i)
		m.Funcs[len(m.Funcs)-1].Blocks[0].End = api.End{Kind: api.EndJump, To: len(m.Funcs[len(m.Funcs)-1].Blocks)}
		if o, e := run.Run(m, "", 10); e != api.ErrArg || o != (api.Outcome{}) {
			t.Fatalf("%d: %+v, %d", i, o, e)
		}
	}
}
