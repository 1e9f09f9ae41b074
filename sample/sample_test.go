package sample_test

import (
	"testing"

	"switchback/api"
	"switchback/model"
	"switchback/sample"
)

func programOf(t *testing.T, number uint64) api.Program {
	t.Helper()
	src := sample.Program(number)
	p, wrong := sample.Read(src)
	if wrong != "" {
		t.Fatalf("%d: %s\n%s", number, wrong, src)
	}
	return p
}

func TestProgramsAreTakenAndMostlyEnd(t *testing.T) {
	const all = 2000
	stops := map[int]int{}
	targets := 0
	for i := range uint64(all) {
		p := programOf(t, i)
		o, _ := model.Run(p, "some input", 20000)
		stops[o.Stop]++
		targets += p.Funcs[p.Main].Targets
	}
	if stops[api.StopExit] < all/3 || stops[api.StopTrap] < all/50 || stops[api.StopFuel] < all/20 || targets < all {
		t.Errorf("stops %v, targets %d", stops, targets)
	}
}

func TestOneNumberOneProgram(t *testing.T) {
	if sample.Program(7) != sample.Program(7) || sample.Program(7) == sample.Program(8) {
		t.Error("a program hangs on more or less than its number")
	}
}
