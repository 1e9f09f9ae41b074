package emit_test

import (
	"slices"
	"testing"

	"switchback/api"
)

// dirty is a function that leaves no word of its frame 0, and none of the registers of temps.
func dirty(slots, words int) api.Graph {
	g := knowing(fn(9+slots), local(words))
	var code []api.Ins
	for temp := range g.Temps {
		code = append(code, set(temp, uint32(0xdeadbe00+temp)))
	}
	for k := range words {
		code = append(code, set(1, uint32(k)), put(0, 1, 2))
	}
	g.Blocks = []api.Block{block(back(3), code...)}
	return g
}

// TestNoughts has functions that ask for temps and for elements that nobody set: they are 0, whatever was there ahead of the call.
func TestNoughts(t *testing.T) {
	calls := fn(many, block(back(4), append(all(), call(-1, 1), call(4, 2), call(4, 2))...))
	fresh := knowing(fn(many, block(back(-1), slices.Concat(shown(), elements(0, 4), elements(1, 3))...)), local(4), local(3))
	noughts := string(make([]byte, many+7))
	ends(t, of(calls, dirty(20, 30), fresh), "", api.StopExit, 0, noughts+noughts)
	for words := range 6 {
		ask := knowing(fn(7, block(back(6), elements(0, uint32(words+1))...)), local(words+1))
		ends(t, of(calls, dirty(20, 30), ask), "", api.StopExit, 0, string(make([]byte, 2*words+2)))
	}
	for temp := range many {
		only := fn(many, block(back(temp)))
		ends(t, of(calls, dirty(20, 1), only), "", api.StopExit, 0, "")
		later := fn(many, block(either(api.InsEq, 9, 0, 1, 2)), block(back(temp)), block(back(temp), set(temp, 7)))
		ends(t, of(calls, dirty(20, 1), later), "", api.StopExit, 0, "")
	}
}

// TestNoughtsInARing has a block 0 that is led to again: what was set stays.
func TestNoughtsInARing(t *testing.T) {
	for _, a := range mixed() {
		for _, b := range []int{1, 10} {
			count := []api.Ins{set(b, 1), two(api.InsAdd, a, a, b), putc(a), set(b, 5)}
			m := of(fn(many, block(either(api.InsLtU, a, b, 0, 1), count...), block(back(a))))
			ends(t, m, "", api.StopExit, 5, "\x01\x02\x03\x04\x05")
			m.Funcs[0].Arrays = []api.Array{local(3)}
			ends(t, m, "", api.StopExit, 5, "\x01\x02\x03\x04\x05")
		}
	}
}

// TestKept has callers all of whose temps are as they were behind a call, but for the one that it sets, whatever the function does.
func TestKept(t *testing.T) {
	for name, g := range map[string]api.Graph{
		"nothing":             fn(0, block(back(-1))),
		"sets all":            dirty(9, 1),
		"clears, Temps 0":     knowing(fn(0, block(back(-1))), local(6)),
		"clears":              knowing(fn(9, block(back(0), set(0, 3))), local(6)),
		"one word":            knowing(fn(0, block(back(-1))), local(1)),
		"asks for unset ones": fn(many, block(back(8), shown()...)),
		"calls":               fn(many, block(back(8), call(8, 2), call(3, 2), call(-1, 2))),
	} {
		for _, d := range append(mixed(), -1, 3) {
			main := fn(many, block(back(max(d, 0)), slices.Concat(all(), []api.Ins{call(d, 1)}, shown())...))
			m := of(main, g, dirty(30, 5))
			t.Run(name, func(t *testing.T) { alike(t, m, "") })
		}
	}
}

// TestEachRegisterIsKept has functions that set one temp alone, in one way each.
func TestEachRegisterIsKept(t *testing.T) {
	for temp := range many {
		for _, g := range []api.Graph{
			fn(many, block(back(-1), set(temp, 9))),
			fn(many, block(back(-1), getc(temp))),
			fn(many, block(back(temp))),
			fn(many, block(to(1)), block(back(-1), putc(temp))),
			fn(many, block(back(-1), call(temp, 2, temp))),
		} {
			main := fn(many, block(back(temp), slices.Concat(all(), []api.Ins{call(-1, 1)}, shown())...))
			alike(t, of(main, g, with(dirty(12, 3), 20)), "x")
		}
		main := fn(many, block(back(temp), slices.Concat(all(), []api.Ins{call(-1, 1, temp)}, shown())...))
		alike(t, of(main, with(fn(many, block(back(-1))), temp)), "")
	}
}

// TestArguments has as many arguments as there may be, from temps of each sort into temps of each sort, one of them several times, too.
func TestArguments(t *testing.T) {
	params := [][]int{
		{0, 1, 2, 3, 4, 5, 6, 7}, {7, 6, 5, 4, 3, 2, 1, 0}, {9, 10, 11, 12, 13, 14, 15, 16},
		{8, 9, 0, 17, 1, 16, 10, 2}, {13, 8}, {0}, {9}, nil,
	}
	args := [][]int{
		{0, 1, 2, 3, 4, 5, 6, 7}, {13, 12, 11, 10, 9, 8, 7, 6}, {3, 3, 3, 3, 12, 12, 12, 12}, {8, 9, 0, 13, 8, 9, 0, 13},
	}
	for _, p := range params {
		g := with(fn(18), p...)
		var code []api.Ins
		for temp := range g.Temps {
			code = append(code, putc(temp))
		}
		g.Blocks = []api.Block{block(back(17), code...)}
		for _, a := range args {
			main := fn(many, block(back(4), slices.Concat(all(), []api.Ins{call(4, 1, a[:len(p)]...)}, shown())...))
			alike(t, of(main, g), "")
			g.Arrays = []api.Array{local(4), handed(), handed(), local(2)}
			main.Arrays = []api.Array{local(3), global(0)}
			main.Blocks[0].Code[many].Arrs = []int{1, 0}
			m := of(main, g)
			m.Arrays = []int{2}
			alike(t, m, "")
			g.Arrays = nil
		}
	}
}

// TestAllHandedOver has as many arguments and arrays handed over as there may be.
func TestAllHandedOver(t *testing.T) {
	g := with(fn(18), 8, 9, 0, 17, 1, 16, 10, 2)
	main := fn(many)
	var code []api.Ins
	for k := range 8 {
		g.Arrays = append(g.Arrays, handed())
		main.Arrays = append(main.Arrays, []api.Array{global(k % 3), local(2 + k)}[k%2])
	}
	for k := range 8 {
		code = append(code, set(5, 1), set(6, uint32('a'+k)), put(k, 5, 6))
	}
	for k := range 8 {
		code = append(code, set(5, 1), get(6, k, 5), putc(6), set(11, uint32(k)+1), get(12, k, 11))
	}
	g.Blocks = []api.Block{block(back(17), append(code, putc(8), putc(9), putc(0), putc(17))...)}
	whole := slices.Concat(all(), []api.Ins{giving(call(4, 1, 13, 0, 12, 1, 11, 2, 10, 3), 7, 6, 5, 4, 3, 2, 1, 0)}, shown())
	main.Blocks = []api.Block{block(back(4), whole...)}
	for _, words := range []int{2, 9, 20} {
		m := of(main, g)
		m.Arrays = []int{words, words, words}
		alike(t, m, "")
	}
}

// deep is a module whose function 1 calls itself as often as it is told.
func deep(times uint32, g api.Graph) api.Module {
	return of(fn(12, block(back(11), set(10, times), call(11, 1, 10))), g)
}

// counting is a function that calls itself till its parameter is 0, and counts the calls.
func counting(param, other, all int) api.Graph {
	return with(fn(all, block(either(api.InsEq, param, other, 2, 1)),
		block(back(other), set(other, 1), two(api.InsSub, param, param, other), call(other, 1, param), set(param, 1), two(api.InsAdd, other, other, param)),
		block(back(param))), param)
}

// TestDepth has as many open calls as there may be, the function Main's with them, and one more.
func TestDepth(t *testing.T) {
	for _, temps := range [][2]int{{0, 1}, {9, 10}, {0, 10}, {10, 0}} {
		g := counting(temps[0], temps[1], 12)
		for _, arrays := range [][]api.Array{nil, {local(1000)}} {
			g.Arrays = arrays
			ends(t, deep(48, g), "", api.StopExit, 48, "")
			ends(t, deep(49, g), "", api.StopTrap, api.TrapDepth, "")
		}
	}
	ends(t, of(fn(0, block(back(-1), call(-1, 0)))), "", api.StopTrap, api.TrapDepth, "")
	m := of(fn(1, block(back(0), load(0, 0), putc(0), set(0, 9), store(0, 0), call(0, 1))), fn(3, block(back(2), call(2, 0))))
	m.Globals = []uint32{5}
	ends(t, m, "", api.StopTrap, api.TrapDepth, "\x05"+string(slices.Repeat([]byte{9}, 24)))
}

// TestDeepAndGreat has as many open calls as there may be of a function whose frame is as great as it may be, in a module with as many globals and elements: each call finds all as it left it.
func TestDeepAndGreat(t *testing.T) {
	g := counting(7, 7999, api.MaxTemps)
	g.Params = []int{7, 0, 7990, 1, 2, 3, 4, 5}
	g.Arrays = append(slices.Repeat([]api.Array{handed()}, 8), local(1000), global(9))
	args := []int{7, 0, 7990, 1, 2, 3, 4, 7998}
	code := []api.Ins{set(6, 999), set(8, 'z'), put(8, 6, 8), get(8, 9, 6), set(9, 'y'), set(5000, 'x')}
	behind := []api.Ins{putc(8), putc(9), putc(5000), putc(0), putc(7990), set(6, 999), get(6, 8, 6), putc(6)}
	own := g.Blocks[1].Code
	own[2].Args, own[2].Arrs = args, []int{8, 7, 6, 5, 4, 3, 2, 1}
	own[2].D = 7997
	g.Blocks[1].Code = slices.Concat(code, own[:3], behind, []api.Ins{one(api.InsMove, 7999, 7997)}, own[3:])
	main := knowing(fn(12, block(back(11), set(10, 48), call(11, 1, slices.Repeat([]int{10}, 8)...))), global(0))
	main.Blocks[0].Code[1].Arrs = make([]int, 8)
	m := of(main, g)
	m.Globals = slices.Repeat([]uint32{1<<32 - 1}, 200)
	m.Arrays = slices.Repeat([]int{1000}, 10)
	ends(t, m, "", api.StopExit, 48, outputOf(t, m))
	main.Blocks[0].Code[0].N = 49
	o := alike(t, m, "")
	if o.Stop != api.StopTrap || o.Code != api.TrapDepth {
		t.Errorf("%+v", o)
	}
}

// outputOf is what comes out of a module's run.
func outputOf(t *testing.T, m api.Module) string {
	t.Helper()
	return alike(t, m, "").Output
}

// TestManyNoughts has a function that asks for as many temps as there may be, none of which was set: each call takes no more steps than it may.
func TestManyNoughts(t *testing.T) {
	g := knowing(fn(api.MaxTemps), local(1000))
	var code []api.Ins
	for temp := range g.Temps {
		code = append(code, two(api.InsAdd, 0, 0, temp))
	}
	g.Blocks = []api.Block{block(either(api.InsEq, 1, 7999, 1, 2)), block(back(-1)), block(back(0), code...)}
	m := of(fn(1, block(back(0), call(0, 1), call(0, 1), call(0, 1))), g)
	image := means(t, m, 100000, "")
	if len(image.Words) == 0 || outcome(t, m, "").Code != 0 {
		t.Error("not 0")
	}
}

// TestLastFunction has a module of as many functions as there may be, each of which calls the next one.
func TestLastFunction(t *testing.T) {
	var m api.Module
	for f := range api.MaxFuncs {
		g := fn(12, block(back(f%12), set(0, uint32(f)), putc(0), call(f%12, min(f+1, api.MaxFuncs-1))))
		if f == 40 {
			g.Blocks[0].Code[2] = set(f%12, 77)
		}
		m.Funcs = append(m.Funcs, g)
	}
	o := alike(t, m, "")
	if o.Code != 77 || len(o.Output) != 41 {
		t.Errorf("%+v", o)
	}
	for _, f := range []int{0, 1, 58, 59} {
		emitted(t, m, f, 60)
	}
	refused(t, m, 60, 60, api.ErrArg)
	refused(t, m, 59, 59, api.ErrArg)
	m.Main = 30
	if o := alike(t, m, ""); o.Code != 77 || len(o.Output) != 11 {
		t.Errorf("%+v", o)
	}
}
