package temps_test

import (
	"slices"
	"testing"

	"switchback/api"
	"switchback/temps"
)

// sorts tells, for each instruction, what it uses and does: A, B, (L) its Args; D: it sets D, (O) and does nothing else.
func sorts() map[int]string {
	m := map[int]string{api.InsConst: "DO", api.InsLoad: "DO", api.InsStore: "A", api.InsGet: "AD", api.InsPut: "AB", api.InsCall: "LD", api.InsGetc: "D", api.InsPutc: "A", api.InsExit: "A"}
	for op := api.InsMove; op <= api.InsLow; op++ {
		m[op] = "ADO"
	}
	for op := api.InsAdd; op <= api.InsLeU; op++ {
		m[op] = "ABDO"
	}
	for op := api.InsDivS; op <= api.InsRemU; op++ {
		m[op] = "ABD"
	}
	return m
}

func TestInstructions(t *testing.T) {
	for op, sort := range sorts() {
		i := api.Ins{Op: op, D: 11, A: 12, B: 13, Args: []int{14, 15, 14}}
		var want []int
		for _, c := range sort {
			switch c {
			case 'A':
				want = append(want, 12)
			case 'B':
				want = append(want, 13)
			case 'L':
				want = append(want, i.Args...)
			}
		}
		var got []int
		for u := range temps.Used(&i) {
			got = append(got, *u)
			*u += 100
		}
		if !slices.Equal(got, want) {
			t.Errorf("%d uses %v, want %v", op, got, want)
		}
		stops(t, &i, len(want))
		has := func(c rune) bool { return slices.Contains([]rune(sort), c) }
		if temps.Sets(&i) != has('D') || temps.OnlySets(op) != has('O') {
			t.Errorf("%d sets D: %v, nothing else: %v", op, temps.Sets(&i), temps.OnlySets(op))
		}
		one, two := op >= api.InsMove && op <= api.InsLow, op >= api.InsAdd && op <= api.InsLeU
		if temps.ReckonsWithOne(op) != one || temps.ReckonsWithTwo(op) != two || temps.Divides(op) != (sort == "ABD") {
			t.Errorf("%d: one %v, two %v, divides %v", op, temps.ReckonsWithOne(op), temps.ReckonsWithTwo(op), temps.Divides(op))
		}
	}
	if temps.Sets(&api.Ins{Op: api.InsCall, D: -1}) || !temps.Sets(&api.Ins{Op: api.InsCall}) {
		t.Error("a call without D")
	}
}

// stops goes through the temps that are used only so far; each one was raised by 100.
func stops(t *testing.T, i *api.Ins, all int) {
	t.Helper()
	for most := 1; most <= all; most++ {
		n := 0
		for u := range temps.Used(i) {
			if *u < 100 {
				t.Errorf("%+v was not raised", i)
			}
			if n++; n == most {
				break
			}
		}
	}
}

func TestEnds(t *testing.T) {
	for _, x := range []struct {
		end  api.End
		want []int
	}{
		{api.End{Kind: api.EndJump, To: 3}, nil},
		{api.End{Kind: api.EndIf, Op: api.InsEq, A: 4, B: 5}, []int{4, 5}},
		{api.End{Kind: api.EndSwitch, A: 6}, []int{6}},
		{api.End{Kind: api.EndTable, A: 7}, []int{7}},
		{api.End{Kind: api.EndReturn, A: 0}, []int{0}},
		{api.End{Kind: api.EndReturn, A: -1}, nil},
	} {
		var got []int
		for u := range temps.UsedByEnd(&x.end) {
			got = append(got, *u)
		}
		for range temps.UsedByEnd(&x.end) {
			break
		}
		if !slices.Equal(got, x.want) {
			t.Errorf("%+v uses %v", x.end, got)
		}
	}
}
