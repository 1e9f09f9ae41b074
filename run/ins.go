package run

import (
	"switchback/api"
	"switchback/word"
)

// end is what InsGetc gives behind the input's end.
const end = 1<<32 - 1

// do does an instruction that is no InsCall.
func (r *machine) do(c *call, i *api.Ins) {
	switch i.Op {
	case api.InsConst:
		c.temps[i.D] = i.N
	case api.InsMove, api.InsNeg, api.InsNot, api.InsLow:
		c.temps[i.D] = word.Single(i.Op, c.temps[i.A])
	case api.InsDivS, api.InsDivU, api.InsRemS, api.InsRemU:
		if c.temps[i.B] == 0 {
			r.trap(api.TrapDiv)
			return
		}
		c.temps[i.D] = r.two(i.Op)(c.temps[i.A], c.temps[i.B])
	case api.InsLoad:
		c.temps[i.D] = r.globals[i.F]
	case api.InsStore:
		r.globals[i.F] = c.temps[i.A]
	case api.InsGet, api.InsPut:
		r.element(c, i)
	case api.InsGetc:
		c.temps[i.D] = r.getc()
	case api.InsPutc:
		r.output.WriteByte(byte(c.temps[i.A]))
	case api.InsExit:
		r.halt(api.StopExit, c.temps[i.A])
	default:
		c.temps[i.D] = r.two(i.Op)(c.temps[i.A], c.temps[i.B])
	}
}

// element reads or writes an array's element.
func (r *machine) element(c *call, i *api.Ins) {
	words, at := c.arrays[i.F], c.temps[i.A]
	if at >= uint32(len(words)) {
		r.trap(api.TrapIndex)
		return
	}
	if i.Op == api.InsPut {
		words[at] = c.temps[i.B]
		return
	}
	c.temps[i.D] = words[at]
}

func (r *machine) getc() uint32 {
	if r.read == len(r.input) {
		return end
	}
	r.read++
	return uint32(r.input[r.read-1])
}

// chooser makes a closure that tells, for an instruction of two words, what it makes of them.
func chooser() func(op int) func(a, b uint32) uint32 {
	does := word.Works()
	return func(op int) func(a, b uint32) uint32 { return does[op] }
}
