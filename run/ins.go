package run

import (
	"switchback/api"
	"switchback/word"
)

// end is what InsGetc gives behind the input's end.
const end = 1<<32 - 1

// do does an instruction that is no InsCall.
func (r *machine) do(c *call, i *api.Ins) {
	switch i.Op {
	case api.InsConst:
		c.temps[i.D] = i.N
	case api.InsMove:
		c.temps[i.D] = c.temps[i.A]
	case api.InsNeg:
		c.temps[i.D] = -c.temps[i.A]
	case api.InsNot:
		c.temps[i.D] = ^c.temps[i.A]
	case api.InsLow:
		c.temps[i.D] = c.temps[i.A] % 256
	case api.InsDivS, api.InsDivU, api.InsRemS, api.InsRemU:
		if c.temps[i.B] == 0 {
			r.trap(api.TrapDiv)
			return
		}
		c.temps[i.D] = r.two(i.Op)(c.temps[i.A], c.temps[i.B])
	case api.InsLoad:
		c.temps[i.D] = r.globals[i.F]
	case api.InsStore:
		r.globals[i.F] = c.temps[i.A]
	case api.InsGet, api.InsPut:
		r.element(c, i)
	case api.InsGetc:
		c.temps[i.D] = r.getc()
	case api.InsPutc:
		r.output.WriteByte(byte(c.temps[i.A]))
	case api.InsExit:
		r.halt(api.StopExit, c.temps[i.A])
	default:
		c.temps[i.D] = r.two(i.Op)(c.temps[i.A], c.temps[i.B])
	}
}

// element reads or writes an array's element.
func (r *machine) element(c *call, i *api.Ins) {
	words, at := c.arrays[i.F], c.temps[i.A]
	if at >= uint32(len(words)) {
		r.trap(api.TrapIndex)
		return
	}
	if i.Op == api.InsPut {
		words[at] = c.temps[i.B]
		return
	}
	c.temps[i.D] = words[at]
}

func (r *machine) getc() uint32 {
	if r.read == len(r.input) {
		return end
	}
	r.read++
	return uint32(r.input[r.read-1])
}

// chooser makes a closure that tells, for an instruction of two words, what it makes of them. (What divides is asked only of a right word that is not 0.)
func chooser() func(op int) func(a, b uint32) uint32 {
	does := [...]func(a, b uint32) uint32{
		api.InsAdd:  func(a, b uint32) uint32 { return a + b },
		api.InsSub:  func(a, b uint32) uint32 { return a - b },
		api.InsMul:  func(a, b uint32) uint32 { return a * b },
		api.InsDivS: word.DivS,
		api.InsDivU: func(a, b uint32) uint32 { return a / b },
		api.InsRemS: word.RemS,
		api.InsRemU: func(a, b uint32) uint32 { return a % b },
		api.InsAnd:  func(a, b uint32) uint32 { return a & b },
		api.InsOr:   func(a, b uint32) uint32 { return a | b },
		api.InsXor:  func(a, b uint32) uint32 { return a ^ b },
		api.InsShl:  word.Shl,
		api.InsShrS: word.ShrS,
		api.InsShrU: word.ShrU,
		api.InsEq:   func(a, b uint32) uint32 { return word.Bool(a == b) },
		api.InsNe:   func(a, b uint32) uint32 { return word.Bool(a != b) },
		api.InsLtS:  func(a, b uint32) uint32 { return word.Bool(word.LtS(a, b)) },
		api.InsLtU:  func(a, b uint32) uint32 { return word.Bool(a < b) },
		api.InsLeS:  func(a, b uint32) uint32 { return word.Bool(!word.LtS(b, a)) },
		api.InsLeU:  func(a, b uint32) uint32 { return word.Bool(a <= b) },
	}
	return func(op int) func(a, b uint32) uint32 { return does[op] }
}
