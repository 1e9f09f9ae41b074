package flow_test

import (
	"math/rand"
	"testing"

	"switchback/api"
	"switchback/sample"
)

func TestSamplesMeanTheSame(t *testing.T) {
	t.Parallel()
	r := rand.New(rand.NewSource(1))
	stops := map[[2]uint32]int{}
	for i := range uint64(3000) {
		p := programOf(t, sample.Program(i))
		m := lowered(t, p)
		shaped(t, p, m)
		for range 2 {
			o := same(t, p, m, sample.Input(r.Uint64()), 5000)
			stops[[2]uint32{uint32(o.Stop), min(o.Code, 4)}]++
		}
		if t.Failed() {
			t.Fatalf("%d: %s", i, sample.Program(i))
		}
	}
	for _, trap := range []uint32{api.TrapDiv, api.TrapIndex, api.TrapDepth} {
		if stops[[2]uint32{api.StopTrap, trap}] == 0 {
			t.Errorf("the trap %d never came about", trap)
		}
	}
}
