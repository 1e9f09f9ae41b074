package graph

import (
	"slices"

	"switchback/api"
)

// checker looks at blocks: handed are the numbers of ArrayParams of the module's functions, sorted is room that is used again.
type checker struct {
	module api.Module
	handed []int
	sorted []uint32
}

// blocks looks at a function's blocks, and tells the first one in which something is wrong.
func (c *checker) blocks(g api.Graph) (int, api.Errno) {
	for b := range g.Blocks {
		for i := range g.Blocks[b].Code {
			if e := c.ins(g, &g.Blocks[b].Code[i]); e != api.OK {
				return b, e
			}
		}
		if !c.endMayBe(g, &g.Blocks[b].End) {
			return b, api.ErrGraphEnd
		}
	}
	return -1, api.OK
}

func (c *checker) ins(g api.Graph, i *api.Ins) api.Errno {
	if i.Op < api.InsConst || i.Op > api.InsExit {
		return api.ErrGraphOp
	}
	there := insHas(i.Op)
	if f := insFields(i); f != f.only(there) {
		return api.ErrGraphOp
	}
	if !tempsMayBe(g, i, there) {
		return api.ErrGraphTemp
	}
	switch i.Op {
	case api.InsLoad, api.InsStore:
		if !below(i.F, len(c.module.Globals)) {
			return api.ErrGraphOp
		}
	case api.InsGet, api.InsPut:
		if !below(i.F, len(g.Arrays)) {
			return api.ErrGraphArray
		}
	case api.InsCall:
		if !c.callMayBe(g, i) {
			return api.ErrGraphCall
		}
	}
	return api.OK
}

func tempsMayBe(g api.Graph, i *api.Ins, there int) bool {
	nowhere := i.Op == api.InsCall && i.D == -1
	if there&fieldD != 0 && !nowhere && !below(i.D, g.Temps) {
		return false
	}
	if there&fieldA != 0 && !below(i.A, g.Temps) {
		return false
	}
	return there&fieldB == 0 || below(i.B, g.Temps)
}

func (c *checker) callMayBe(g api.Graph, i *api.Ins) bool {
	if !below(i.F, len(c.module.Funcs)) {
		return false
	}
	if len(i.Args) != len(c.module.Funcs[i.F].Params) || len(i.Arrs) != c.handed[i.F] {
		return false
	}
	return allBelow(i.Args, g.Temps) && allBelow(i.Arrs, len(g.Arrays))
}

func allBelow(l []int, n int) bool {
	for _, i := range l {
		if !below(i, n) {
			return false
		}
	}
	return true
}

func (c *checker) endMayBe(g api.Graph, e *api.End) bool {
	if e.Kind < api.EndJump || e.Kind > api.EndReturn {
		return false
	}
	if f := endFields(e); f != f.only(endHas(e.Kind)) {
		return false
	}
	switch e.Kind {
	case api.EndJump:
		return below(e.To, len(g.Blocks))
	case api.EndIf:
		return e.Op >= api.InsEq && e.Op <= api.InsLeU && below(e.A, g.Temps) && below(e.B, g.Temps) &&
			below(e.To, len(g.Blocks)) && below(e.Else, len(g.Blocks))
	case api.EndSwitch:
		return below(e.A, g.Temps) && below(e.To, len(g.Blocks)) && c.casesMayBe(g, e.Cases)
	case api.EndTable:
		return below(e.A, g.Temps) && below(e.To, len(g.Blocks)) &&
			len(e.Targets) > 0 && len(e.Targets) <= api.MaxTable && allBelow(e.Targets, len(g.Blocks))
	}
	return e.A == -1 || below(e.A, g.Temps)
}

func (c *checker) casesMayBe(g api.Graph, cases []api.Case) bool {
	if len(cases) > api.MaxTable {
		return false
	}
	c.sorted = c.sorted[:0]
	for _, one := range cases {
		if !below(one.To, len(g.Blocks)) {
			return false
		}
		c.sorted = append(c.sorted, one.N)
	}
	slices.Sort(c.sorted)
	for i := range c.sorted {
		if i > 0 && c.sorted[i] == c.sorted[i-1] {
			return false
		}
	}
	return true
}
