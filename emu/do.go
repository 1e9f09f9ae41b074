package emu

import (
	"switchback/api"
	"switchback/word"
)

// inputEnd is what MacGETC gives behind the input's end.
const inputEnd = 1<<32 - 1

// do does an instruction; the machine's place is behind it already.
func (r *machine) do(i instruction) {
	a := &r.registers[i.a]
	b := r.registers[i.b]
	switch i.op {
	case api.MacLI:
		*a = uint32(i.imm)
	case api.MacLIT:
		*a = r.behind()
	case api.MacMOV:
		*a = b
	case api.MacNEG:
		*a = -b
	case api.MacNOT:
		*a = ^b
	case api.MacLOW:
		*a = b % 256
	case api.MacADDI:
		*a = b + uint32(i.imm)
	case api.MacLD:
		*a = r.memory.load(b + uint32(i.imm))
	case api.MacST:
		r.memory.store(b+uint32(i.imm), *a)
	case api.MacCHK:
		if *a >= b {
			panic(trap(api.TrapIndex))
		}
	case api.MacGETC:
		*a = r.getc()
	case api.MacPUTC:
		r.output.WriteByte(byte(*a))
	case api.MacEXIT:
		r.halt(api.StopExit, *a)
	case api.MacTRAP:
		r.halt(api.StopTrap, uint32(i.imm))
	case api.MacJMP, api.MacJML, api.MacJTAB, api.MacCALL, api.MacRET:
		r.jump(i)
	case api.MacBEQ, api.MacBNE, api.MacBLTS, api.MacBGES, api.MacBLES, api.MacBGTS, api.MacBLTU, api.MacBGEU, api.MacBLEU, api.MacBGTU:
		if holds(i.op, *a, b) {
			r.place += int(i.imm)
		}
	case 0:
		panic(trap(api.TrapOp))
	default:
		*a = r.reckon(i.op, b, r.registers[i.imm])
	}
}

// reckon is what an instruction, MacADD to MacLEU, makes of two words; those of graphs stand in the same order.
func (r *machine) reckon(op uint8, b, c uint32) uint32 {
	switch op {
	case api.MacDIVS, api.MacDIVU, api.MacREMS, api.MacREMU:
		if c == 0 {
			panic(trap(api.TrapDiv))
		}
	}
	return r.works[op-api.MacADD+api.InsAdd](b, c)
}

func (r *machine) getc() uint32 {
	if r.input == "" {
		return inputEnd
	}
	c := r.input[0]
	r.input = r.input[1:]
	return uint32(c)
}

// holds tells whether a branch goes where it leads.
func holds(op uint8, a, b uint32) bool {
	switch op {
	case api.MacBEQ:
		return a == b
	case api.MacBNE:
		return a != b
	case api.MacBLTS:
		return word.LtS(a, b)
	case api.MacBGES:
		return !word.LtS(a, b)
	case api.MacBLES:
		return !word.LtS(b, a)
	case api.MacBGTS:
		return word.LtS(b, a)
	case api.MacBLTU:
		return a < b
	case api.MacBGEU:
		return a >= b
	case api.MacBLEU:
		return a <= b
	}
	return a > b
}

// jump does an instruction that leads elsewhere, whatever the registers hold.
func (r *machine) jump(i instruction) {
	switch i.op {
	case api.MacJMP:
		r.place += int(i.imm)
	case api.MacJML:
		r.place = int(r.behind())
	case api.MacJTAB:
		r.table(r.registers[i.a])
	case api.MacCALL:
		to := r.behind()
		if len(r.back) == api.MaxCalls {
			panic(trap(api.TrapDepth))
		}
		r.back = append(r.back, r.place)
		r.place = int(to)
	case api.MacRET:
		last := len(r.back) - 1
		if last < 0 {
			panic(trap(api.TrapReturn))
		}
		r.place = r.back[last]
		r.back = r.back[:last]
	}
}

// table goes to the place that a table has for a number.
func (r *machine) table(number uint32) {
	if n := r.behind(); number >= n {
		panic(trap(api.TrapTable))
	}
	r.place = int(r.word(uint64(r.place) + uint64(number)))
}
