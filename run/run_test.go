package run_test

import (
	"math"
	"strings"
	"testing"

	"switchback/api"
	"switchback/run"
)

// module is one function, with 4 temps, a global scalar that begins as 9, and a global array of 3.
func module(blocks ...api.Block) api.Module {
	return api.Module{Globals: []uint32{9}, Arrays: []int{3}, Funcs: []api.Graph{function(blocks...)}}
}

func function(blocks ...api.Block) api.Graph {
	return api.Graph{Temps: 4, Arrays: []api.Array{{Kind: api.ArrayGlobal}, {Kind: api.ArrayLocal, N: 2}}, Blocks: blocks}
}

func block(end api.End, code ...api.Ins) api.Block {
	return api.Block{Code: code, End: end}
}

func set(d int, n uint32) api.Ins { return api.Ins{Op: api.InsConst, D: d, N: n} }
func putc(a int) api.Ins          { return api.Ins{Op: api.InsPutc, A: a} }
func back(a int) api.End          { return api.End{Kind: api.EndReturn, A: a} }
func jump(to int) api.End         { return api.End{Kind: api.EndJump, To: to} }

func ran(t *testing.T, m api.Module, input string, fuel int) api.Outcome {
	t.Helper()
	o, e := run.Run(m, input, fuel)
	if e != api.OK {
		t.Fatalf("%d: %+v", e, m)
	}
	return o
}

func is(t *testing.T, what string, got, want api.Outcome) {
	t.Helper()
	if got != want {
		t.Errorf("%s: %+v, want %+v", what, got, want)
	}
}

func exit(code uint32, steps int) api.Outcome {
	return api.Outcome{Stop: api.StopExit, Code: code, Steps: steps}
}

func trapped(which uint32, steps int) api.Outcome {
	return api.Outcome{Stop: api.StopTrap, Code: which, Steps: steps}
}

func TestExamples(t *testing.T) {
	is(t, "a constant", ran(t, module(block(back(0), set(0, 5))), "", 100), exit(5, 2))
	for _, fuel := range []int{0, 1, 17} {
		is(t, "a ring", ran(t, module(block(jump(0))), "", fuel), api.Outcome{Stop: api.StopFuel, Steps: fuel})
	}
	echo := module(block(jump(0), api.Ins{Op: api.InsGetc}, putc(0)))
	is(t, "echo", ran(t, echo, "ab", 9), api.Outcome{Stop: api.StopFuel, Output: "ab\xff", Steps: 9})
}

func TestWhatIsNoArgument(t *testing.T) {
	m := module(block(back(-1)))
	for _, x := range []struct {
		name  string
		m     api.Module
		input string
		fuel  int
		want  api.Errno
	}{
		{"no module", api.Module{}, "", 5, api.ErrArg},
		{"a module that may not be", module(block(back(4))), "", 5, api.ErrArg},
		{"an unreached block that may not be", module(block(back(-1)), block(jump(2))), "", 5, api.ErrArg},
		{"the longest input", m, strings.Repeat("x", 10000), 5, api.OK},
		{"too long an input", m, strings.Repeat("x", 10001), 5, api.ErrArg},
		{"fuel -1", m, "", -1, api.ErrArg},
		{"fuel least", m, "", math.MinInt, api.ErrArg},
		{"fuel 0", m, "", 0, api.OK},
		{"fuel 2^30", m, "", 1 << 30, api.OK},
		{"fuel 2^30 + 1", m, "", 1<<30 + 1, api.ErrArg},
		{"fuel most", m, "", math.MaxInt, api.ErrArg},
	} {
		o, e := run.Run(x.m, x.input, x.fuel)
		if e != x.want || e != api.OK && o != (api.Outcome{}) {
			t.Errorf("%s: %+v, %d", x.name, o, e)
		}
	}
}

func TestOneWord(t *testing.T) {
	for _, x := range []struct {
		op      int
		a, want uint32
	}{
		{api.InsMove, 1<<32 - 1, 1<<32 - 1}, {api.InsMove, 0, 0},
		{api.InsNeg, 1, 1<<32 - 1}, {api.InsNeg, 1 << 31, 1 << 31}, {api.InsNeg, 0, 0},
		{api.InsNot, 0, 1<<32 - 1}, {api.InsNot, 0xff00ff00, 0x00ff00ff},
		{api.InsLow, 0x12345678, 0x78}, {api.InsLow, 256, 0}, {api.InsLow, 255, 255},
	} {
		m := module(block(back(1), set(2, x.a), api.Ins{Op: x.op, D: 1, A: 2}))
		is(t, "an instruction of one word", ran(t, m, "", 9), exit(x.want, 3))
	}
}

func TestTwoWords(t *testing.T) {
	const top, all = 1 << 31, 1<<32 - 1
	for _, x := range []struct {
		op         int
		a, b, want uint32
	}{
		{api.InsAdd, all, 2, 1}, {api.InsAdd, 3, 4, 7},
		{api.InsSub, 1, 2, all}, {api.InsSub, 9, 4, 5},
		{api.InsMul, 1 << 16, 1 << 16, 0}, {api.InsMul, all, all, 1}, {api.InsMul, 6, 7, 42},
		{api.InsDivS, top, all, top}, {api.InsDivS, all - 6, 2, all - 2}, {api.InsDivS, 7, all - 1, all - 2}, {api.InsDivS, 7, 2, 3},
		{api.InsDivU, top, all, 0}, {api.InsDivU, all, 2, top - 1}, {api.InsDivU, all, all, 1},
		{api.InsRemS, top, all, 0}, {api.InsRemS, all - 6, 2, all}, {api.InsRemS, 7, all - 1, 1}, {api.InsRemS, all - 6, all - 1, all},
		{api.InsRemU, top, all, top}, {api.InsRemU, all, 10, 5},
		{api.InsAnd, 12, 10, 8}, {api.InsOr, 12, 10, 14}, {api.InsXor, 12, 10, 6},
		{api.InsShl, 1, 31, top}, {api.InsShl, 3, 32, 3}, {api.InsShl, 3, 33, 6}, {api.InsShl, 3, all, top},
		{api.InsShrS, top, 31, all}, {api.InsShrS, top, 32, top}, {api.InsShrS, all - 6, 1, all - 3}, {api.InsShrS, 64, 33, 32},
		{api.InsShrU, top, 31, 1}, {api.InsShrU, top, 32, top}, {api.InsShrU, all, all, 1},
		{api.InsEq, 5, 5, 1}, {api.InsEq, 5, 6, 0}, {api.InsNe, 5, 5, 0}, {api.InsNe, 5, 6, 1},
		{api.InsLtS, all, 0, 1}, {api.InsLtS, 0, all, 0}, {api.InsLtS, top, top - 1, 1}, {api.InsLtS, 4, 4, 0}, {api.InsLtS, 3, 4, 1},
		{api.InsLtU, all, 0, 0}, {api.InsLtU, 0, all, 1}, {api.InsLtU, top, top - 1, 0}, {api.InsLtU, 4, 4, 0},
		{api.InsLeS, all, 0, 1}, {api.InsLeS, 0, all, 0}, {api.InsLeS, 4, 4, 1}, {api.InsLeS, 5, 4, 0},
		{api.InsLeU, all, 0, 0}, {api.InsLeU, 0, all, 1}, {api.InsLeU, 4, 4, 1}, {api.InsLeU, 5, 4, 0},
	} {
		m := module(block(back(0), set(1, x.a), set(2, x.b), api.Ins{Op: x.op, D: 0, A: 1, B: 2}))
		if got := ran(t, m, "", 9); got != exit(x.want, 4) {
			t.Errorf("Op %d of %d and %d: %+v, want %d", x.op, x.a, x.b, got, x.want)
		}
		if x.op < api.InsEq {
			continue
		}
		e := api.End{Kind: api.EndIf, Op: x.op, A: 1, B: 2, To: 1, Else: 2}
		m = module(block(e, set(1, x.a), set(2, x.b)), block(back(3), set(3, 1)), block(back(-1)))
		if got := ran(t, m, "", 9); got.Code != x.want || got.Stop != api.StopExit {
			t.Errorf("EndIf %d of %d and %d: %+v, want %d", x.op, x.a, x.b, got, x.want)
		}
	}
}

func TestDivisionsTrap(t *testing.T) {
	for op := api.InsDivS; op <= api.InsRemU; op++ {
		m := module(block(back(0), set(0, 7), putc(0), api.Ins{Op: op, D: 0, A: 0, B: 1}))
		want := trapped(api.TrapDiv, 3)
		want.Output = "\a"
		is(t, "a division by 0", ran(t, m, "", 9), want)
	}
}

func TestScalarsAndArrays(t *testing.T) {
	load, store := api.Ins{Op: api.InsLoad, D: 2}, api.Ins{Op: api.InsStore, A: 1}
	is(t, "a scalar at the start", ran(t, module(block(back(2), load)), "", 9), exit(9, 2))
	is(t, "a scalar that was stored", ran(t, module(block(back(2), set(1, 77), store, load)), "", 9), exit(77, 4))
	for f, words := range []uint32{3, 2} {
		put, get := api.Ins{Op: api.InsPut, F: f, A: 0, B: 1}, api.Ins{Op: api.InsGet, F: f, D: 2, A: 0}
		for at := range words {
			m := module(block(back(2), set(0, at), set(1, 77), put, get))
			is(t, "an element", ran(t, m, "", 9), exit(77, 5))
			m = module(block(back(2), set(2, 8), set(0, at), get))
			is(t, "an element at the start", ran(t, m, "", 9), exit(0, 4))
		}
		for _, at := range []uint32{words, words + 1, 1 << 31, 1<<32 - 1} {
			is(t, "no element is read", ran(t, module(block(back(2), set(0, at), get)), "", 9), trapped(api.TrapIndex, 2))
			is(t, "no element is written", ran(t, module(block(back(2), set(0, at), put)), "", 9), trapped(api.TrapIndex, 2))
		}
	}
}

func TestInputOutputExit(t *testing.T) {
	getc := api.Ins{Op: api.InsGetc, D: 0}
	read := module(block(back(0), getc))
	is(t, "a byte", ran(t, read, "\xfe", 9), exit(254, 2))
	is(t, "a byte 0", ran(t, read, "\x00", 9), exit(0, 2))
	is(t, "behind the end", ran(t, read, "", 9), exit(1<<32-1, 2))
	is(t, "behind the end again", ran(t, module(block(back(0), getc, getc, getc)), "a", 9), exit(1<<32-1, 4))
	is(t, "what is put out", ran(t, module(block(back(-1), set(0, 0x141), putc(0), putc(1))), "", 9), api.Outcome{Stop: api.StopExit, Output: "A\x00", Steps: 4})
	leave := module(block(jump(0), set(0, 0x80000141), api.Ins{Op: api.InsExit, A: 0}, putc(0)))
	is(t, "an exit", ran(t, leave, "", 9), exit(0x80000141, 2))
	is(t, "no exit yet", ran(t, leave, "", 1), api.Outcome{Stop: api.StopFuel, Steps: 1})
	is(t, "just enough fuel", ran(t, leave, "", 2), exit(0x80000141, 2))
	is(t, "a return of nothing", ran(t, module(block(back(-1), set(0, 4))), "", 9), exit(0, 2))
	is(t, "no fuel for the return", ran(t, module(block(back(-1), set(0, 4))), "", 1), api.Outcome{Stop: api.StopFuel, Steps: 1})
}

func TestSwitchesAndTables(t *testing.T) {
	leaves := func(e api.End, a uint32) api.Module {
		m := module(block(e, set(0, a)))
		for i := range 6 {
			m.Funcs[0].Blocks = append(m.Funcs[0].Blocks, block(back(1), set(1, uint32(i+1))))
		}
		return m
	}
	choice := api.End{Kind: api.EndSwitch, A: 0, To: 6, Cases: []api.Case{{N: 5, To: 1}, {N: 1<<32 - 1, To: 2}, {N: 0, To: 3}, {N: 1 << 31, To: 1}}}
	for a, want := range map[uint32]uint32{5: 1, 1<<32 - 1: 2, 0: 3, 1 << 31: 1, 4: 6, 6: 6, 1: 6, 1<<31 - 1: 6} {
		is(t, "a switch", ran(t, leaves(choice, a), "", 9), exit(want, 4))
	}
	is(t, "a switch without cases", ran(t, leaves(api.End{Kind: api.EndSwitch, To: 4}, 0), "", 9), exit(4, 4))
	table := api.End{Kind: api.EndTable, A: 0, N: 10, To: 6, Targets: []int{1, 2, 1, 3}}
	for a, want := range map[uint32]uint32{9: 6, 10: 1, 11: 2, 12: 1, 13: 3, 14: 6, 0: 6, 1<<32 - 1: 6, 1<<31 + 10: 6} {
		is(t, "a table", ran(t, leaves(table, a), "", 9), exit(want, 4))
	}
	table.N = 1<<32 - 2
	for a, want := range map[uint32]uint32{1<<32 - 3: 6, 1<<32 - 2: 1, 1<<32 - 1: 2, 0: 1, 1: 3, 2: 6} {
		is(t, "a table around 0", ran(t, leaves(table, a), "", 9), exit(want, 4))
	}
}

func TestInputIsNotChangedAndNothingIsKept(t *testing.T) {
	code := []api.Ins{{Op: api.InsLoad, D: 0}, set(1, 1), {Op: api.InsAdd, D: 0, A: 0, B: 1}, {Op: api.InsStore, A: 0}, {Op: api.InsGet, D: 2, A: 3}, {Op: api.InsPut, A: 3, B: 1}}
	m := module(block(back(0), append(code, api.Ins{Op: api.InsAdd, D: 0, A: 0, B: 2})...))
	for range 3 {
		is(t, "again", ran(t, m, "", 99), exit(10, 8))
	}
	if m.Globals[0] != 9 {
		t.Error("a run changes the module")
	}
}
