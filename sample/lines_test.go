package sample_test

import (
	"reflect"
	"testing"

	"switchback/api"
	"switchback/emu"
	"switchback/relax"
	"switchback/sample"
)

func TestLinesMayBeAndOftenEnd(t *testing.T) {
	const all = 3000
	ops, stops, traps := map[int]int{}, map[int]int{}, map[uint32]int{}
	rounds, long := map[int]int{}, 0
	for i := range uint64(all) {
		l := sample.Lines(i)
		for _, x := range l {
			ops[x.Op]++
		}
		a, line, e := relax.Assemble(l)
		if e != api.OK {
			t.Fatalf("%d: %d at %d", i, e, line)
		}
		rounds[a.Rounds]++
		o, e := emu.Run(api.Image{Words: a.Words, Kinds: a.Kinds}, "some input", 2000)
		if e != api.OK {
			t.Fatalf("%d: %d", i, e)
		}
		stops[o.Stop]++
		if o.Stop == api.StopTrap {
			traps[o.Code]++
		}
		if o.Stop != api.StopFuel && o.Steps > 30 {
			long++
		}
	}
	if stops[api.StopExit] < all/5 || stops[api.StopFuel] < all/10 || long < all/20 {
		t.Errorf("stops %v, %d long runs that end", stops, long)
	}
	for n := uint32(api.TrapDiv); n <= api.TrapReturn; n++ {
		// A word of a list is never an instruction that may not be.
		if n != api.TrapOp && traps[n] < all/300 {
			t.Errorf("traps %v", traps)
		}
	}
	if rounds[2] < all/20 || rounds[3] < all/50 {
		t.Errorf("rounds %v", rounds)
	}
	for op := range api.MacTRAP + 1 {
		if ops[op] == 0 {
			t.Errorf("no line has the Op %d", op)
		}
	}
}

func TestOneNumberOneList(t *testing.T) {
	if !reflect.DeepEqual(sample.Lines(7), sample.Lines(7)) || reflect.DeepEqual(sample.Lines(7), sample.Lines(8)) {
		t.Error("a list hangs on more or less than its number")
	}
}
