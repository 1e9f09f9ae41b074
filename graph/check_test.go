package graph_test

import (
	"testing"

	"switchback/api"
	"switchback/graph"
)

// whole is a module that may be, with each Op and each Kind: the function 0 is Main, 1 has Params and ArrayParams, 2 has next to nothing.
func whole() api.Module {
	main := api.Graph{
		Temps:  6,
		Arrays: []api.Array{{Kind: api.ArrayGlobal, N: 1}, {Kind: api.ArrayLocal, N: 4}},
		Blocks: []api.Block{
			{Code: mainCode(), End: api.End{Kind: api.EndIf, Op: api.InsLtS, A: 5, B: 0, To: 1, Else: 4}},
			{End: api.End{Kind: api.EndSwitch, A: 5, Cases: []api.Case{{N: 7, To: 2}, {N: 1<<32 - 1, To: 0}}, To: 4}},
			{End: api.End{Kind: api.EndTable, A: 5, N: 1<<32 - 1, Targets: []int{4, 0, 4}, To: 3}},
			{End: api.End{Kind: api.EndJump, To: 4}},
			{End: api.End{Kind: api.EndReturn, A: 5}},
		},
	}
	second := api.Graph{
		Params: []int{1, 0},
		Temps:  2,
		Arrays: []api.Array{{Kind: api.ArrayParam}, {Kind: api.ArrayLocal, N: 1}, {Kind: api.ArrayParam}},
		Blocks: []api.Block{{
			Code: []api.Ins{{Op: api.InsConst, D: 1, N: 3}, {Op: api.InsCall, D: 0, F: 2}},
			End:  api.End{Kind: api.EndReturn, A: -1},
		}},
	}
	third := api.Graph{Blocks: []api.Block{{
		Code: []api.Ins{{Op: api.InsCall, D: -1, F: 2}},
		End:  api.End{Kind: api.EndReturn, A: -1},
	}}}
	return api.Module{Globals: []uint32{4, 1 << 31}, Arrays: []int{1000, 1}, Funcs: []api.Graph{main, second, third}}
}

// mainCode has each Op once, at the place of its number less 1.
func mainCode() []api.Ins {
	code := []api.Ins{{Op: api.InsConst, D: 5, N: 1<<32 - 1}}
	for op := api.InsMove; op <= api.InsLow; op++ {
		code = append(code, api.Ins{Op: op, D: 5, A: 0})
	}
	for op := api.InsAdd; op <= api.InsLeU; op++ {
		code = append(code, api.Ins{Op: op, D: 5, A: 0, B: 5})
	}
	return append(code,
		api.Ins{Op: api.InsLoad, D: 5, F: 1},
		api.Ins{Op: api.InsStore, A: 5, F: 1},
		api.Ins{Op: api.InsGet, D: 5, A: 5, F: 1},
		api.Ins{Op: api.InsPut, A: 5, B: 5, F: 1},
		api.Ins{Op: api.InsCall, D: -1, F: 1, Args: []int{5, 5}, Arrs: []int{0, 1}},
		api.Ins{Op: api.InsGetc, D: 5},
		api.Ins{Op: api.InsPutc, A: 5},
		api.Ins{Op: api.InsExit, A: 5},
	)
}

// found is what Check answers.
type found struct {
	fn, block int
	e         api.Errno
}

var fine = found{-1, -1, api.OK}

func checked(m api.Module) found {
	f, b, e := graph.Check(m)
	return found{f, b, e}
}

// fault is what is done to a module that may be, and what Check has to say to it.
type fault struct {
	name string
	do   func(m *api.Module)
	want found
}

func tell(t *testing.T, faults []fault) {
	t.Helper()
	for _, f := range faults {
		m := whole()
		f.do(&m)
		if got := checked(m); got != f.want {
			t.Errorf("%s: %v, want %v", f.name, got, f.want)
		}
	}
}

func TestExamples(t *testing.T) {
	block := api.Block{End: api.End{Kind: api.EndReturn, A: -1}}
	one := func(b ...api.Block) api.Module {
		return api.Module{Funcs: []api.Graph{{Blocks: b}}}
	}
	if got := checked(one(block)); got != fine {
		t.Error(got)
	}
	if got := checked(one()); got != (found{0, -1, api.ErrGraphFunc}) {
		t.Error(got)
	}
	block.Code = []api.Ins{{Op: api.InsConst}}
	if got := checked(one(block)); got != (found{0, 0, api.ErrGraphTemp}) {
		t.Error(got)
	}
}

func TestWholeMayBe(t *testing.T) {
	if got := checked(whole()); got != fine {
		t.Error(got)
	}
}

func TestModuleFaults(t *testing.T) {
	none := found{-1, -1, api.ErrGraphModule}
	functions := func(n int) func(*api.Module) {
		return func(m *api.Module) {
			for len(m.Funcs) < n {
				m.Funcs = append(m.Funcs, whole().Funcs[2])
			}
		}
	}
	globals := func(n int) func(*api.Module) {
		return func(m *api.Module) { m.Globals = make([]uint32, n) }
	}
	arrays := func(n, words int) func(*api.Module) {
		return func(m *api.Module) {
			m.Arrays = nil
			for range n {
				m.Arrays = append(m.Arrays, words)
			}
		}
	}
	tell(t, []fault{
		{"no function", func(m *api.Module) { m.Funcs = nil }, none},
		{"60 functions", functions(60), fine},
		{"61 functions", functions(61), none},
		{"Main -1", func(m *api.Module) { m.Main = -1 }, none},
		{"Main behind all", func(m *api.Module) { m.Main = 3 }, none},
		{"Main the last one", func(m *api.Module) { m.Main = 2 }, fine},
		{"200 Globals", globals(200), fine},
		{"201 Globals", globals(201), none},
		{"200 Arrays", arrays(200, 1), fine},
		{"201 Arrays", arrays(201, 1), none},
		{"200 of both", func(m *api.Module) { globals(200)(m); arrays(200, 50)(m) }, fine},
		{"an array of 0", func(m *api.Module) { m.Arrays[1] = 0 }, none},
		{"an array of -1", func(m *api.Module) { m.Arrays[0] = -1 }, none},
		{"an array of 1001", func(m *api.Module) { m.Arrays[0] = 1001 }, none},
		{"10000 words", arrays(10, 1000), fine},
		{"10001 words", func(m *api.Module) { arrays(10, 1000)(m); m.Arrays = append(m.Arrays, 1) }, none},
		{"Main with Params", func(m *api.Module) { m.Funcs[0].Params = []int{0} }, none},
		{"Main with an ArrayParam", func(m *api.Module) { m.Funcs[0].Arrays[1] = api.Array{Kind: api.ArrayParam} }, none},
		{"Main another one with Params", func(m *api.Module) { m.Main, m.Funcs[1].Arrays = 1, nil }, none},
		{"Main another one with ArrayParams", func(m *api.Module) { m.Main, m.Funcs[1].Params = 1, nil }, none},
	})
}

func TestHeadFaults(t *testing.T) {
	last := func(do func(g *api.Graph)) func(*api.Module) {
		return func(m *api.Module) { do(&m.Funcs[2]) }
	}
	temps := func(n int, params ...int) func(*api.Module) {
		return last(func(g *api.Graph) { g.Temps = n; g.Params = params; g.Blocks[0].Code = nil })
	}
	// Nobody calls the function behind the last one, so its Params and ArrayParams are free.
	free := func(do func(g *api.Graph)) func(*api.Module) {
		return func(m *api.Module) {
			g := whole().Funcs[2]
			g.Temps = 9
			do(&g)
			m.Funcs = append(m.Funcs, g)
		}
	}
	params := func(p ...int) func(*api.Module) {
		return free(func(g *api.Graph) { g.Params = p })
	}
	arrays := func(n int, a api.Array) func(*api.Module) {
		return free(func(g *api.Graph) {
			for range n {
				g.Arrays = append(g.Arrays, a)
			}
		})
	}
	temp, array, function := found{3, -1, api.ErrGraphTemp}, found{3, -1, api.ErrGraphArray}, found{2, -1, api.ErrGraphFunc}
	tell(t, []fault{
		{"Temps -1", temps(-1), found{2, -1, api.ErrGraphTemp}},
		{"Temps 0", temps(0), fine},
		{"Temps 8000", temps(8000), fine},
		{"Temps 8001", temps(8001), found{2, -1, api.ErrGraphTemp}},
		{"8 Params", params(8, 7, 6, 5, 4, 3, 2, 1), fine},
		{"9 Params", params(8, 7, 6, 5, 4, 3, 2, 1, 0), temp},
		{"a Param -1", params(1, -1), temp},
		{"a Param behind all temps", params(9), temp},
		{"Params that are the same", params(1, 3, 2, 3), temp},
		{"500 Arrays", arrays(500, api.Array{Kind: api.ArrayGlobal}), fine},
		{"501 Arrays", arrays(501, api.Array{Kind: api.ArrayGlobal}), array},
		{"Kind 0", arrays(1, api.Array{}), array},
		{"Kind 4", arrays(1, api.Array{Kind: 4, N: 1}), array},
		{"Kind -1", arrays(1, api.Array{Kind: -1, N: 1}), array},
		{"the last global array", arrays(1, api.Array{Kind: api.ArrayGlobal, N: 1}), fine},
		{"a global array behind all", arrays(1, api.Array{Kind: api.ArrayGlobal, N: 2}), array},
		{"the global array -1", arrays(1, api.Array{Kind: api.ArrayGlobal, N: -1}), array},
		{"a local array of 0", arrays(1, api.Array{Kind: api.ArrayLocal}), array},
		{"a local array of -1", arrays(1, api.Array{Kind: api.ArrayLocal, N: -1}), array},
		{"a local array of 1000", arrays(1, api.Array{Kind: api.ArrayLocal, N: 1000}), fine},
		{"a local array of 1001", arrays(1, api.Array{Kind: api.ArrayLocal, N: 1001}), array},
		{"1000 words of local arrays", arrays(500, api.Array{Kind: api.ArrayLocal, N: 2}), fine},
		{"1002 words of local arrays", arrays(334, api.Array{Kind: api.ArrayLocal, N: 3}), array},
		{"an ArrayParam with a number", arrays(1, api.Array{Kind: api.ArrayParam, N: 1}), array},
		{"8 ArrayParams", arrays(8, api.Array{Kind: api.ArrayParam}), fine},
		{"9 ArrayParams", arrays(9, api.Array{Kind: api.ArrayParam}), array},
		{"no block", last(func(g *api.Graph) { g.Blocks = nil }), function},
		{"20000 blocks", last(many(20000, 0)), fine},
		{"20001 blocks", last(many(20001, 0)), function},
		{"40000 instructions", last(many(20000, 2)), fine},
		{"40001 instructions", last(func(g *api.Graph) {
			many(20000, 2)(g)
			g.Blocks[77].Code = append(g.Blocks[77].Code, call)
		}), function},
		{"40000 instructions in one block", last(many(1, 40000)), fine},
		{"40001 instructions in one block", last(many(1, 40001)), function},
	})
}

var call = api.Ins{Op: api.InsCall, D: -1, F: 2}

// many gives a graph so many blocks, with so many instructions each.
func many(blocks, code int) func(g *api.Graph) {
	return func(g *api.Graph) {
		g.Blocks = nil
		for range blocks {
			b := api.Block{End: api.End{Kind: api.EndJump, To: blocks - 1}}
			for range code {
				b.Code = append(b.Code, call)
			}
			g.Blocks = append(g.Blocks, b)
		}
	}
}
