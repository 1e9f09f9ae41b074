package sample_test

import (
	"reflect"
	"testing"

	"switchback/api"
	"switchback/graph"
	"switchback/run"
	"switchback/sample"
)

func TestModulesMayBeAndMostlyEnd(t *testing.T) {
	const all = 3000
	exits, long := 0, 0
	traps, ops, ends := map[uint32]int{}, map[int]int{}, map[int]int{}
	for i := range uint64(all) {
		m := sample.Module(i)
		if f, b, e := graph.Check(m); e != api.OK {
			t.Fatalf("%d: %d at %d, %d", i, e, f, b)
		}
		o, _ := run.Run(m, "some input", 5000)
		switch o.Stop {
		case api.StopExit:
			exits++
		case api.StopTrap:
			traps[o.Code]++
		}
		if o.Stop != api.StopFuel && o.Steps > 30 {
			long++
		}
		for _, g := range m.Funcs {
			gather(g, ops, ends)
		}
	}
	if exits < all/2 || long < all/8 || exits == all {
		t.Errorf("%d exits, %d long runs that end", exits, long)
	}
	if traps[api.TrapDiv] < all/20 || traps[api.TrapIndex] == 0 || traps[api.TrapDepth] == 0 {
		t.Errorf("traps %v", traps)
	}
	if len(ops) != api.InsExit || len(ends) != api.EndReturn {
		t.Errorf("ops %v, ends %v", ops, ends)
	}
}

// gather counts a graph's instructions and ends.
func gather(g api.Graph, ops, ends map[int]int) {
	for _, b := range g.Blocks {
		ends[b.End.Kind]++
		for _, i := range b.Code {
			ops[i.Op]++
		}
	}
}

func TestOneNumberOneModule(t *testing.T) {
	if !reflect.DeepEqual(sample.Module(7), sample.Module(7)) || reflect.DeepEqual(sample.Module(7), sample.Module(8)) {
		t.Error("a module hangs on more or less than its number")
	}
}
