package fold_test

import (
	"math/rand"
	"reflect"
	"testing"

	"switchback/api"
	"switchback/fold"
	"switchback/graph"
	"switchback/run"
	"switchback/sample"
)

// folded folds a module, and checks all that is promised of every one.
func folded(t *testing.T, m api.Module) api.Module {
	t.Helper()
	ahead := graph.Copy(m)
	f, e := fold.Fold(m)
	if e != api.OK {
		t.Fatalf("%d: %+v", e, m)
	}
	if !reflect.DeepEqual(m, ahead) {
		t.Fatal("the module is changed")
	}
	if s := sample.UnlikeHead(m, f); s != "" {
		t.Fatalf("%s\n%+v\n%+v", s, m, f)
	}
	smaller(t, m, f)
	for _, g := range f.Funcs {
		for _, b := range g.Blocks {
			nothingKnown(t, b)
		}
	}
	again, e := fold.Fold(f)
	if e != api.OK {
		t.Fatal(e)
	}
	smaller(t, f, again)
	return f
}

// smaller checks that there are as many blocks, and in each no more instructions.
func smaller(t *testing.T, m, f api.Module) {
	t.Helper()
	for i, g := range m.Funcs {
		if len(g.Blocks) != len(f.Funcs[i].Blocks) {
			t.Fatalf("%d blocks, ahead %d", len(f.Funcs[i].Blocks), len(g.Blocks))
		}
		for k, b := range g.Blocks {
			if n := len(f.Funcs[i].Blocks[k].Code); n > len(b.Code) {
				t.Fatalf("%d instructions, ahead %d", n, len(b.Code))
			}
		}
	}
}

// knownAt tells whether a temp is known at a place of a block, and its word: it looks back from there.
func knownAt(b api.Block, at, temp int) (uint32, bool) {
	for at--; at >= 0; at-- {
		i := b.Code[at]
		switch i.Op {
		case api.InsStore, api.InsPut, api.InsPutc, api.InsExit:
		case api.InsConst:
			if i.D == temp {
				return i.N, true
			}
		default:
			if i.D == temp {
				return 0, false
			}
		}
	}
	return 0, false
}

// nothingKnown checks that nothing in a block takes only what is known.
func nothingKnown(t *testing.T, b api.Block) {
	t.Helper()
	for at, i := range b.Code {
		if i.Op < api.InsMove || i.Op > api.InsLeU {
			continue
		}
		_, known := knownAt(b, at, i.A)
		if i.Op >= api.InsAdd {
			n, is := knownAt(b, at, i.B)
			divides := i.Op == api.InsDivS || i.Op == api.InsDivU || i.Op == api.InsRemS || i.Op == api.InsRemU
			known = known && is && !(divides && n == 0)
		}
		if known {
			t.Fatalf("the instruction %d: %+v", at, b)
		}
	}
	_, a := knownAt(b, len(b.Code), b.End.A)
	_, too := knownAt(b, len(b.Code), b.End.B)
	if b.End.Kind == api.EndIf && a && too || a && (b.End.Kind == api.EndSwitch || b.End.Kind == api.EndTable) {
		t.Fatalf("the end: %+v", b)
	}
}

func asMany(n int) int { return n }

// means checks a folded module's runs against those of the module.
func means(t *testing.T, m api.Module, input string, fuel int) api.Module {
	t.Helper()
	f := folded(t, m)
	if s := sample.Unlike(m, f, input, fuel, asMany); s != "" {
		t.Fatalf("%s\n%+v\n%+v", s, m, f)
	}
	return f
}

// one is a module of one function, with blocks of its own.
func one(temps int, blocks ...api.Block) api.Module {
	return api.Module{Funcs: []api.Graph{{Temps: temps, Blocks: blocks}}}
}

func set(d int, n uint32) api.Ins {
	return api.Ins{Op: api.InsConst, D: d, N: n}
}

func two(op, d, a, b int) api.Ins {
	return api.Ins{Op: op, D: d, A: a, B: b}
}

func back(a int) api.End {
	return api.End{Kind: api.EndReturn, A: a}
}

func to(block int) api.End {
	return api.End{Kind: api.EndJump, To: block}
}

// gives checks what a block becomes that stands alone: the instruction that is left, of D 5, and what comes of the run.
func gives(t *testing.T, want uint32, code ...api.Ins) {
	t.Helper()
	m := one(6, api.Block{Code: code, End: back(5)})
	f := means(t, m, "", 100)
	if got := f.Funcs[0].Blocks[0].Code; !reflect.DeepEqual(got, []api.Ins{set(5, want)}) {
		t.Errorf("%+v: %+v, want %d", code, got, want)
	}
}

func TestExample(t *testing.T) {
	m := one(3, api.Block{Code: []api.Ins{set(0, 2), set(1, 3), two(api.InsAdd, 2, 0, 1)}, End: api.End{Kind: api.EndIf, Op: api.InsEq, A: 2, B: 1, To: 1, Else: 2}}, api.Block{End: back(0)}, api.Block{End: back(2)})
	f := means(t, m, "", 100)
	if end := f.Funcs[0].Blocks[0].End; !reflect.DeepEqual(end, to(2)) {
		t.Errorf("%+v", end)
	}
}

func words() []uint32 {
	l := []uint32{0, 1, 2, 5, 31, 32, 33, 255, 256, 300, 1<<31 - 1, 1 << 31, 1<<31 + 1, 1<<32 - 300, 1<<32 - 2, 1<<32 - 1}
	r := rand.New(rand.NewSource(5))
	for range 6 {
		l = append(l, r.Uint32())
	}
	return l
}

// TestOperators works out each instruction as a run does.
func TestOperators(t *testing.T) {
	for _, a := range words() {
		for op := api.InsMove; op <= api.InsLow; op++ {
			gives(t, runs(op, a, 0), set(3, a), api.Ins{Op: op, D: 5, A: 3})
		}
		for _, b := range words() {
			for op := api.InsAdd; op <= api.InsLeU; op++ {
				if op >= api.InsDivS && op <= api.InsRemU && b == 0 {
					traps(t, op, a)
					continue
				}
				gives(t, runs(op, a, b), set(1, a), set(2, b), two(op, 5, 1, 2))
			}
			for op := api.InsEq; op <= api.InsLeU; op++ {
				decides(t, op, a, b)
			}
		}
	}
}

// runs is what an instruction makes of words that it reads from globals: nothing of it is known.
func runs(op int, a, b uint32) uint32 {
	i := api.Ins{Op: op, D: 2, A: 0}
	if op >= api.InsAdd {
		i.B = 1
	}
	m := one(3, api.Block{Code: []api.Ins{{Op: api.InsLoad, D: 0}, {Op: api.InsLoad, D: 1, F: 1}, i}, End: back(2)})
	m.Globals = []uint32{a, b}
	o, _ := run.Run(m, "", 100)
	return o.Code
}

// traps checks that a division by 0 is left, and does what it did.
func traps(t *testing.T, op int, a uint32) {
	t.Helper()
	code := []api.Ins{set(1, a), set(2, 0), set(5, 7), two(op, 5, 1, 2), two(api.InsAdd, 5, 5, 1)}
	f := means(t, one(6, api.Block{Code: code, End: back(5)}), "", 100)
	o, _ := run.Run(f, "", 100)
	if o.Stop != api.StopTrap || o.Code != api.TrapDiv {
		t.Errorf("%+v: %+v", code, o)
	}
}

func decides(t *testing.T, op int, a, b uint32) {
	t.Helper()
	m := one(2, api.Block{Code: []api.Ins{set(0, a), set(1, b)}, End: api.End{Kind: api.EndIf, Op: op, A: 0, B: 1, To: 2, Else: 1}}, api.Block{End: back(0)}, api.Block{End: back(1)})
	f := means(t, m, "", 100)
	if end := f.Funcs[0].Blocks[0].End; !reflect.DeepEqual(end, to(1+int(runs(op, a, b)))) {
		t.Errorf("%d of %d and %d: %+v", op, a, b, end)
	}
}

func TestSwitchesAndTables(t *testing.T) {
	blocks := func(n uint32, e api.End) api.Module {
		return one(1, api.Block{Code: []api.Ins{set(0, n)}, End: e}, api.Block{End: back(-1)}, api.Block{End: back(0)}, api.Block{End: to(1)}, api.Block{End: to(2)})
	}
	cases := []api.Case{{N: 7, To: 1}, {N: 1<<32 - 1, To: 2}, {N: 0, To: 3}, {N: 1 << 31, To: 1}}
	for n, want := range map[uint32]int{7: 1, 1<<32 - 1: 2, 0: 3, 1 << 31: 1, 8: 4, 1: 4, 6: 4} {
		f := means(t, blocks(n, api.End{Kind: api.EndSwitch, Cases: cases, To: 4}), "", 100)
		if end := f.Funcs[0].Blocks[0].End; !reflect.DeepEqual(end, to(want)) {
			t.Errorf("a switch of %d: %+v", n, end)
		}
		f = means(t, blocks(n, api.End{Kind: api.EndSwitch, To: 3}), "", 100)
		if end := f.Funcs[0].Blocks[0].End; !reflect.DeepEqual(end, to(3)) {
			t.Errorf("a switch without cases: %+v", end)
		}
	}
	for _, base := range []uint32{0, 1, 5, 1 << 31, 1<<32 - 1, 1<<32 - 2, 1<<32 - 3} {
		for at := range uint32(9) {
			n := base + at - 3
			want := 4
			if at >= 3 && at < 6 {
				want = []int{2, 1, 3}[at-3]
			}
			f := means(t, blocks(n, api.End{Kind: api.EndTable, N: base, Targets: []int{2, 1, 3}, To: 4}), "", 100)
			if end := f.Funcs[0].Blocks[0].End; !reflect.DeepEqual(end, to(want)) {
				t.Errorf("a table from %d on of %d: %+v", base, n, end)
			}
		}
	}
}

// TestForgotten has what is known no more: temps that something else set, globals behind a call or another store, whatever stands in other blocks.
func TestForgotten(t *testing.T) {
	setters := []api.Ins{
		{Op: api.InsGetc, D: 0}, {Op: api.InsLoad, D: 0, F: 1}, {Op: api.InsGet, D: 0, F: 0, A: 3}, {Op: api.InsCall, D: 0, F: 1}, {Op: api.InsMove, D: 0, A: 4}, {Op: api.InsNeg, D: 0, A: 4}, two(api.InsAdd, 0, 0, 4), two(api.InsDivS, 0, 1, 4), two(api.InsMul, 0, 4, 1),
	}
	others := []api.Ins{
		{Op: api.InsStore, F: 0, A: 4}, {Op: api.InsStore, F: 1, A: 0}, {Op: api.InsPut, F: 0, A: 3, B: 4}, {Op: api.InsCall, D: -1, F: 1}, {Op: api.InsCall, D: 3, F: 1}, {Op: api.InsPutc, A: 4}, {Op: api.InsPutc, A: 0}, {Op: api.InsGetc, D: 3},
	}
	for _, own := range append(setters, others...) {
		known := !reflect.DeepEqual(setters[len(setters)-1], own) && own.D != 0 || own.Op == api.InsStore || own.Op == api.InsPut || own.Op == api.InsPutc
		code := []api.Ins{{Op: api.InsGetc, D: 4}, set(0, 8), set(1, 9), own, two(api.InsAdd, 2, 0, 1), {Op: api.InsPutc, A: 2}}
		f := means(t, globals(code), "\x05z", 1000)
		found := 0
		for _, i := range f.Funcs[0].Blocks[0].Code {
			if i.Op == api.InsConst && i.D == 2 && i.N == 17 {
				found++
			}
		}
		if (found == 1) != known {
			t.Errorf("%+v: %+v", own, f.Funcs[0].Blocks[0].Code)
		}
	}
}

// globals is a module of two scalars and an array; the function 1 changes them.
func globals(code []api.Ins) api.Module {
	return api.Module{
		Globals: []uint32{3, 4},
		Arrays:  []int{2},
		Funcs: []api.Graph{
			{Temps: 6, Arrays: []api.Array{{Kind: api.ArrayGlobal}}, Blocks: []api.Block{{Code: code, End: back(2)}}},
			{Temps: 3, Blocks: []api.Block{{Code: []api.Ins{{Op: api.InsGetc, D: 2}, {Op: api.InsStore, F: 0, A: 2}, set(1, 77), {Op: api.InsStore, F: 1, A: 1}}, End: back(1)}}},
		},
	}
}

func TestGlobals(t *testing.T) {
	load := func(d, f int) api.Ins { return api.Ins{Op: api.InsLoad, D: d, F: f} }
	store := func(f, a int) api.Ins { return api.Ins{Op: api.InsStore, F: f, A: a} }
	call := api.Ins{Op: api.InsCall, D: -1, F: 1}
	getc := func(d int) api.Ins { return api.Ins{Op: api.InsGetc, D: d} }
	for _, x := range []struct {
		known bool
		code  []api.Ins
	}{
		{false, []api.Ins{load(2, 0)}},
		{true, []api.Ins{set(0, 5), store(0, 0), load(2, 0)}},
		{false, []api.Ins{set(0, 5), store(0, 0), load(2, 1)}},
		{false, []api.Ins{set(0, 5), store(0, 0), call, load(2, 0)}},
		{true, []api.Ins{set(0, 5), store(0, 0), getc(0), load(2, 0)}},
		{false, []api.Ins{set(0, 5), store(0, 0), getc(0), store(0, 0), load(2, 0)}},
		{true, []api.Ins{set(0, 5), store(0, 0), getc(1), store(1, 1), load(2, 0)}},
		{true, []api.Ins{set(0, 5), store(0, 0), set(0, 6), store(0, 0), load(2, 0)}},
		{false, []api.Ins{set(0, 5), store(0, 0), store(1, 0), call, store(0, 0), load(2, 1)}},
		{true, []api.Ins{set(0, 5), store(0, 0), store(1, 0), call, call, store(0, 0), load(2, 0)}},
		{false, []api.Ins{set(0, 5), store(0, 0), load(0, 0), load(1, 1), two(api.InsAdd, 2, 0, 1)}},
		{true, []api.Ins{set(0, 5), store(0, 0), store(1, 0), load(0, 0), load(1, 1), two(api.InsAdd, 2, 0, 1)}},
	} {
		f := means(t, globals(x.code), "\x09\x0a\x0b", 1000)
		code := f.Funcs[0].Blocks[0].Code
		if last := code[len(code)-1]; last.D != 2 || (last.Op == api.InsConst) != x.known {
			t.Errorf("%+v: %+v", x.code, code)
		}
	}
}

// TestBlocksApart has what is known in a block and not in the one behind it, to which another way leads.
func TestBlocksApart(t *testing.T) {
	m := one(3,
		api.Block{Code: []api.Ins{{Op: api.InsGetc, D: 0}, set(1, 1)}, End: api.End{Kind: api.EndIf, Op: api.InsEq, A: 0, B: 2, To: 1, Else: 2}},
		api.Block{Code: []api.Ins{set(1, 2)}, End: to(2)},
		api.Block{Code: []api.Ins{two(api.InsAdd, 1, 1, 1)}, End: back(1)})
	for _, input := range []string{"\x00", "\x01", ""} {
		means(t, m, input, 100)
	}
}

// TestNothingNeeded has what only sets temps that nobody uses, or that only such use.
func TestNothingNeeded(t *testing.T) {
	code := []api.Ins{{Op: api.InsGetc, D: 0}, two(api.InsAdd, 1, 0, 0), two(api.InsMul, 2, 1, 0), two(api.InsSub, 3, 3, 2), {Op: api.InsLoad, D: 4}, two(api.InsXor, 5, 4, 3), set(4, 9)}
	f := means(t, globals(append(code, two(api.InsDivS, 5, 0, 4), api.Ins{Op: api.InsGet, D: 5, A: 4})), "a", 100)
	if got := f.Funcs[0].Blocks[0].Code; len(got) != 4+3 {
		t.Errorf("%+v", got)
	}
	m := globals(code)
	m.Funcs[0].Blocks[0].End = back(-1)
	f = means(t, m, "a", 100)
	if got := f.Funcs[0].Blocks[0].Code; len(got) != 1 {
		t.Errorf("%+v", got)
	}
}

func TestWhatMayNotBe(t *testing.T) {
	for _, m := range []api.Module{{}, one(0), one(1, api.Block{}), one(0, api.Block{Code: []api.Ins{set(0, 0)}, End: back(-1)}), one(0, api.Block{End: to(1)}), {Funcs: one(0, api.Block{End: back(-1)}).Funcs, Main: 1}} {
		f, e := fold.Fold(m)
		if e != api.ErrArg || !reflect.DeepEqual(f, api.Module{}) {
			t.Errorf("%+v: %d, %+v", m, e, f)
		}
	}
}

// TestMemoryOfItsOwn writes over all of an answer: the module stays as it is.
func TestMemoryOfItsOwn(t *testing.T) {
	for i := range uint64(200) {
		m := sample.Module(i)
		ahead := graph.Copy(m)
		f := folded(t, m)
		for k := range f.Funcs {
			g := &f.Funcs[k]
			for n := range g.Blocks {
				b := &g.Blocks[n]
				for c := range b.Code {
					clear(b.Code[c].Args)
					clear(b.Code[c].Arrs)
				}
				clear(b.Code[:cap(b.Code)])
				clear(b.End.Cases)
				clear(b.End.Targets)
			}
			clear(g.Params)
			clear(g.Arrays)
			clear(g.Blocks)
		}
		clear(f.Globals)
		clear(f.Arrays)
		clear(f.Funcs)
		if !reflect.DeepEqual(m, ahead) {
			t.Fatalf("%d: %+v", i, m)
		}
	}
}
