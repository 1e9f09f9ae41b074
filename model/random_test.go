package model_test

import (
	"math/rand"
	"strings"
	"testing"

	"switchback/api"
	"switchback/model"
	"switchback/sample"
)

func TestSamplesRunAsWrittenOut(t *testing.T) {
	r := rand.New(rand.NewSource(1))
	stops := map[[2]uint32]int{}
	for i := range uint64(3000) {
		src := sample.Program(i)
		p := programOf(t, src)
		code := written(p)
		input := sample.Input(r.Uint64())
		o, e := model.Run(p, input, 20000)
		if e != api.OK {
			t.Fatal(e)
		}
		want, asked := code.goThrough(input, 20000)
		if o != want {
			t.Fatalf("%d: %+v, want %+v\n%s", i, o, want, src)
		}
		stops[[2]uint32{uint32(o.Stop), min(o.Code, 4)}]++
		for range 5 {
			less(t, p, input, o, r.Intn(o.Steps+1))
		}
		unread(t, p, input, asked, o, r)
	}
	t.Log(stops)
	for _, trap := range []uint32{api.TrapDiv, api.TrapIndex, api.TrapDepth} {
		if stops[[2]uint32{api.StopTrap, trap}] == 0 {
			t.Errorf("the trap %d never came about", trap)
		}
	}
}

// less is P4.2's first part: with less fuel than was needed the run stops by it, with a beginning of the output; with more it is the same.
func less(t *testing.T, p api.Program, input string, o api.Outcome, fuel int) {
	t.Helper()
	if o.Stop != api.StopFuel {
		if more, _ := model.Run(p, input, o.Steps+fuel); more != o {
			t.Fatalf("with more fuel %+v, with less %+v", more, o)
		}
	}
	if fuel == o.Steps {
		return
	}
	x, _ := model.Run(p, input, fuel)
	if x.Stop != api.StopFuel || x.Code != 0 || x.Steps != fuel || !strings.HasPrefix(o.Output, x.Output) {
		t.Fatalf("%+v with %d: %+v", o, fuel, x)
	}
}

// unread is P4.2's second part: what stands behind the bytes that were asked for may be anything.
func unread(t *testing.T, p api.Program, input string, asked int, o api.Outcome, r *rand.Rand) {
	t.Helper()
	if asked > len(input) {
		return
	}
	if x, _ := model.Run(p, input[:asked]+sample.Input(r.Uint64()), 20000); x != o {
		t.Fatalf("%+v, with another rest of the input %+v", o, x)
	}
}
