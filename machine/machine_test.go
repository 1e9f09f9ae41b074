package machine_test

import (
	"slices"
	"testing"

	"switchback/api"
	"switchback/machine"
	"switchback/sample"
)

// TestNumbers has each register for one thing: those of temps, and the three behind them.
func TestNumbers(t *testing.T) {
	if l := []int{machine.Result, machine.Spare, machine.Frame}; !slices.Equal(l, []int{9, 10, 11}) || machine.Borrowed != 0 || machine.Handed != 2 {
		t.Errorf("%d, %d, %d", l, machine.Borrowed, machine.Handed)
	}
}

func TestPlaces(t *testing.T) {
	for _, x := range []struct {
		globals int
		arrays  []int
		places  []int
		frames  int
	}{
		{0, nil, nil, 0},
		{7, nil, nil, 7},
		{0, []int{5}, []int{0}, 5},
		{3, []int{1, 1000, 2}, []int{3, 4, 1004}, 1006},
		{200, slices.Repeat([]int{1000}, 10), []int{200, 1200, 2200, 3200, 4200, 5200, 6200, 7200, 8200, 9200}, 10200},
	} {
		m := api.Module{Globals: make([]uint32, x.globals), Arrays: x.arrays}
		got := machine.Arrays(m)
		if !slices.Equal(got, x.places) || machine.Frames(m) != x.frames {
			t.Errorf("%d globals, %d: %d, %d, want %d, %d", x.globals, x.arrays, got, machine.Frames(m), x.places, x.frames)
		}
		if !sample.Apart(got, m.Arrays, machine.Arrays(m)) {
			t.Errorf("%d: shared memory", x.arrays)
		}
	}
}
