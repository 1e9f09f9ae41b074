package run

import "switchback/api"

// call is a call that is open: the instruction that comes next, and what is its own.
type call struct {
	graph  *api.Graph
	block  int
	at     int
	temps  []uint32
	local  []uint32
	arrays [][]uint32 // as the graph numbers them, wherever their words stand
	into   int        // the temp of the call ahead that becomes what this one gives, or -1
}

// enter opens a call, in the memory of one that stood there ahead.
func (r *machine) enter(function int) *call {
	r.open = r.open[:len(r.open)+1]
	c := &r.open[len(r.open)-1]
	c.graph = &r.module.Funcs[function]
	c.block, c.at = 0, 0
	c.temps = noughts(c.temps, c.graph.Temps)
	c.local = noughts(c.local, localWords(c.graph))
	c.arrays = c.arrays[:0]
	rest := c.local
	for _, a := range c.graph.Arrays {
		var words []uint32
		switch a.Kind {
		case api.ArrayGlobal:
			words = r.arrays[a.N]
		case api.ArrayLocal:
			words, rest = rest[:a.N], rest[a.N:]
		}
		c.arrays = append(c.arrays, words)
	}
	return c
}

func localWords(g *api.Graph) int {
	n := 0
	for _, a := range g.Arrays {
		if a.Kind == api.ArrayLocal {
			n += a.N
		}
	}
	return n
}

// noughts are n words, all 0, in the memory of others, if there is room.
func noughts(old []uint32, n int) []uint32 {
	if cap(old) < n {
		return make([]uint32, n)
	}
	old = old[:n]
	clear(old)
	return old
}

// call opens the call of an instruction: arguments become Params, arrays ArrayParams.
func (r *machine) call(from *call, i *api.Ins) {
	if len(r.open) == api.MaxCalls {
		r.trap(api.TrapDepth)
		return
	}
	c := r.enter(i.F)
	c.into = i.D
	for n, p := range c.graph.Params {
		c.temps[p] = from.temps[i.Args[n]]
	}
	handed := i.Arrs
	for n, a := range c.graph.Arrays {
		if a.Kind == api.ArrayParam {
			c.arrays[n] = from.arrays[handed[0]]
			handed = handed[1:]
		}
	}
}

// leave closes the innermost call, which gives a temp of its own, or 0. With the first one the run stops.
func (r *machine) leave(c *call, temp int) {
	value := uint32(0)
	if temp != -1 {
		value = c.temps[temp]
	}
	r.open = r.open[:len(r.open)-1]
	if len(r.open) == 0 {
		r.halt(api.StopExit, value)
		return
	}
	if c.into != -1 {
		r.open[len(r.open)-1].temps[c.into] = value
	}
}
