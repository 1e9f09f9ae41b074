package frame

import (
	"switchback/api"
	"switchback/machine"
	"switchback/temps"
)

// What a register is kept for.
const (
	forNothing = iota
	forCode    // an instruction sets it
	forParam   // an argument comes into it
	forNought  // it is asked for ahead of being set: so it must be 0 at a call's beginning
	forArrays  // it serves where local arrays become 0
)

// reasons tell what each register is kept for: if for several things, one of them.
type reasons [api.Regs]int

// keep keeps what a temp is, if that is a register.
func (r *reasons) keep(temp, reason int) {
	if temp < api.Regs {
		r[temp] = reason
	}
}

// saved are the registers that a graph keeps for its caller, rising; needed are the temps that are needed where it begins.
func saved(g api.Graph, needed []int) []int {
	var r reasons
	for b := range g.Blocks {
		code := g.Blocks[b].Code
		for k := range code {
			if temps.Sets(&code[k]) {
				r.keep(code[k].D, forCode)
			}
		}
	}
	for _, p := range g.Params {
		r.keep(p, forParam)
	}
	for _, t := range needed {
		r.keep(t, forNought)
	}
	for _, a := range g.Arrays {
		if a.Kind == api.ArrayLocal {
			r.keep(machine.Borrowed, forArrays)
		}
	}
	var registers []int
	for register, reason := range r {
		if reason != forNothing {
			registers = append(registers, register)
		}
	}
	return registers
}
