package sample_test

import (
	"testing"

	"switchback/api"
	"switchback/graph"
	"switchback/sample"
)

// full is a module that has lists of all sorts.
func full() api.Module {
	call := api.Ins{Op: api.InsCall, Args: []int{0}, Arrs: []int{0}}
	g := api.Graph{Params: []int{0}, Temps: 2, Arrays: []api.Array{{Kind: api.ArrayParam}}, Blocks: []api.Block{
		{Code: []api.Ins{call}, End: api.End{Kind: api.EndSwitch, Cases: []api.Case{{N: 1}}}},
		{End: api.End{Kind: api.EndTable, Targets: []int{1}}},
	}}
	return api.Module{Globals: []uint32{4}, Arrays: []int{2}, Funcs: []api.Graph{g}}
}

func TestWhatIsShared(t *testing.T) {
	m := full()
	if sample.Shared(m) || sample.Shared(m, graph.Copy(m), sample.Module(3)) || sample.Shared() {
		t.Error("what is not shared is told of as shared")
	}
	if !sample.Shared(m, m) {
		t.Error("a module and itself")
	}
	code := func(m *api.Module) *api.Ins { return &m.Funcs[0].Blocks[0].Code[0] }
	for i, share := range []func(m, c *api.Module){
		func(m, c *api.Module) { c.Globals = m.Globals },
		func(m, c *api.Module) { c.Arrays = m.Arrays },
		func(m, c *api.Module) { c.Funcs = m.Funcs },
		func(m, c *api.Module) { c.Funcs[0].Params = m.Funcs[0].Params },
		func(m, c *api.Module) { c.Funcs[0].Arrays = m.Funcs[0].Arrays },
		func(m, c *api.Module) { c.Funcs[0].Blocks = m.Funcs[0].Blocks[2:] },
		func(m, c *api.Module) { c.Funcs[0].Blocks[0].Code = m.Funcs[0].Blocks[0].Code },
		func(m, c *api.Module) { c.Funcs[0].Blocks[0].End.Cases = m.Funcs[0].Blocks[0].End.Cases[:0] },
		func(m, c *api.Module) { c.Funcs[0].Blocks[1].End.Targets = m.Funcs[0].Blocks[1].End.Targets },
		func(m, c *api.Module) { code(c).Args = code(m).Args },
		func(m, c *api.Module) { code(c).Arrs = code(m).Arrs },
		func(m, c *api.Module) { code(c).Arrs = code(c).Args },
	} {
		m := full()
		m.Funcs[0].Blocks = append(make([]api.Block, 0, 3), m.Funcs[0].Blocks...)
		c := graph.Copy(m)
		share(&m, &c)
		if !sample.Shared(m, c) {
			t.Errorf("%d: what is shared is told of as not shared", i)
		}
	}
}

func TestApart(t *testing.T) {
	l := make([]int, 3, 5)
	if !sample.Apart[int]() || !sample.Apart(l, nil, []int{1}, make([]int, 3)) || !sample.Apart(l[0:2:2], l[2:]) {
		t.Error("what is apart is told of as shared")
	}
	if sample.Apart(l, l) || sample.Apart(l, []int{1}, l[3:]) || sample.Apart(l[:1], l[1:2]) || sample.Apart(l[:0], l[4:5]) {
		t.Error("what is shared is told of as apart")
	}
}
