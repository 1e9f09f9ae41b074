package emit_test

import (
	"slices"
	"testing"

	"switchback/api"
	"switchback/graph"
)

// three is a module of three functions.
func three() api.Module {
	m := of(fn(2, block(back(0), call(0, 1, 1))), with(fn(3, block(back(0), load(1, 0), giving(call(2, 2), 0))), 0), knowing(fn(1, block(back(0))), handed()))
	m.Funcs[1].Arrays = []api.Array{global(0)}
	m.Globals, m.Arrays = []uint32{1}, []int{4}
	return m
}

// TestModulesThatMayNotBe has modules in which one thing is wrong, of each sort, at functions that are emitted and at others.
func TestModulesThatMayNotBe(t *testing.T) {
	seen := map[api.Errno]int{}
	for name, spoil := range map[string]func(m *api.Module){
		"nothing":                func(m *api.Module) { *m = api.Module{} },
		"no functions":           func(m *api.Module) { m.Funcs = nil },
		"too many functions":     func(m *api.Module) { m.Funcs = append(m.Funcs, slices.Repeat(m.Funcs[2:], 58)...) },
		"Main is none":           func(m *api.Module) { m.Main = 3 },
		"Main with a parameter":  func(m *api.Module) { m.Main = 1 },
		"Main with an array":     func(m *api.Module) { m.Main = 2 },
		"too many globals":       func(m *api.Module) { m.Globals = make([]uint32, 201) },
		"an array of no words":   func(m *api.Module) { m.Arrays[0] = 0 },
		"an array of many words": func(m *api.Module) { m.Arrays[0] = 1001 },
		"too many words":         func(m *api.Module) { m.Arrays = slices.Repeat([]int{1000}, 11) },
		"too many temps":         func(m *api.Module) { m.Funcs[2].Temps = 8001 },
		"no temp as a parameter": func(m *api.Module) { m.Funcs[1].Params[0] = 3 },
		"an array of no kind":    func(m *api.Module) { m.Funcs[0].Arrays = []api.Array{{}} },
		"no blocks":              func(m *api.Module) { m.Funcs[2].Blocks = nil },
		"too much code":          func(m *api.Module) { m.Funcs[0].Blocks[0].Code = slices.Repeat([]api.Ins{set(0, 0)}, 40001) },
		"no Op":                  func(m *api.Module) { m.Funcs[2].Blocks[0].Code = []api.Ins{{}} },
		"no temp":                func(m *api.Module) { m.Funcs[2].Blocks[0].Code = []api.Ins{set(1, 0)} },
		"no global":              func(m *api.Module) { m.Globals = nil },
		"no array":               func(m *api.Module) { m.Funcs[0].Blocks[0].Code = []api.Ins{get(0, 0, 0)} },
		"no function":            func(m *api.Module) { m.Funcs[0].Blocks[0].Code[0].F = 3 },
		"no argument":            func(m *api.Module) { m.Funcs[0].Blocks[0].Code[0].Args = nil },
		"a field too many":       func(m *api.Module) { m.Funcs[0].Blocks[0].Code[0].N = 1 },
		"no block":               func(m *api.Module) { m.Funcs[2].Blocks[0].End = to(1) },
		"no end":                 func(m *api.Module) { m.Funcs[2].Blocks[0].End = api.End{} },
	} {
		m := three()
		spoil(&m)
		_, _, e := graph.Check(m)
		if seen[e]++; e == api.OK {
			t.Errorf("%s: may be", name)
		}
		for f := range 3 {
			refused(t, m, f, max(len(m.Funcs), 3), api.ErrArg)
		}
		// Two at once, and all three.
		refused(t, m, 0, 2, api.ErrArg)
		refused(t, m, -1, 3, api.ErrArg)
		refused(t, m, 99, 100001, api.ErrArg)
	}
	for e := api.ErrGraphFunc; e <= api.ErrGraphModule; e++ {
		if seen[e] == 0 {
			t.Errorf("nothing is wrong by %d", e)
		}
	}
}

// TestFunctionsAndLabels has numbers of functions, and labels, at the ends of what may be, and beyond.
func TestFunctionsAndLabels(t *testing.T) {
	m := three()
	for _, label := range []int{3, 4, 1000, 99999, 100000} {
		for f := range 3 {
			emitted(t, m, f, label)
		}
		for _, f := range []int{3, 4, -1, 1 << 40, -1 << 40} {
			refused(t, m, f, label, api.ErrArg)
		}
	}
	for _, label := range []int{2, 1, 0, -1, 100001, 100002, 1 << 40, -1 << 40} {
		for f := range 4 {
			refused(t, m, f, label, api.ErrArg)
		}
	}
}

// TestTooBigAndWrong has functions that are too big, asked for in a way that is wrong, too: that comes first.
func TestTooBigAndWrong(t *testing.T) {
	m := of(fn(9, block(back(0), slices.Repeat([]api.Ins{load(0, 0)}, api.MaxIns)...)), fn(0, block(back(-1))))
	m.Globals = []uint32{0}
	refused(t, m, 0, 2, api.ErrTooBig)
	refused(t, m, 0, 100000, api.ErrTooBig)
	refused(t, m, 0, 1, api.ErrArg)
	refused(t, m, 0, 100001, api.ErrArg)
	refused(t, m, 2, 2, api.ErrArg)
	emitted(t, m, 1, 2)
	m.Globals = nil
	refused(t, m, 0, 2, api.ErrArg)
}
