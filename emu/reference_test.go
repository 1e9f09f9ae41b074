package emu_test

import "switchback/api"

// A second machine: it reads each word by the chapters' tables when it comes to it, reckons in whole numbers, and keeps its memory in a map. Nothing of enc or word is used here.

const whole = 1 << 32

// other is that machine.
type other struct {
	m         api.Image
	registers [12]int64
	memory    map[int64]int64
	input     []byte
	output    []byte
	back      []int64
	place     int64
}

// stopped is how it stops; stop is 0 while it goes on.
type stopped struct {
	stop int
	code int64
}

func trapped(n int64) stopped {
	return stopped{api.StopTrap, n}
}

// otherRun is what is to come of a run of an image that may be.
func otherRun(m api.Image, input string, fuel int) api.Outcome {
	o := &other{m: m, memory: map[int64]int64{}, input: []byte(input), place: int64(m.Entry)}
	for steps := 0; ; steps++ {
		if steps == fuel {
			return api.Outcome{Stop: api.StopFuel, Output: string(o.output), Steps: steps}
		}
		if s := o.step(); s.stop != 0 {
			return api.Outcome{Stop: s.stop, Code: uint32(s.code), Output: string(o.output), Steps: steps + 1}
		}
	}
}

// word is the word at a place, if there is one.
func (o *other) word(place int64) (int64, bool) {
	if place < 0 || place >= int64(len(o.m.Words)) {
		return 0, false
	}
	return int64(o.m.Words[place]), true
}

// parted is a word as Op, A, B and Imm, if it is that of an instruction that may be.
func parted(w int64) (op, a, b, imm int64, is bool) {
	op, a, b, imm = w/(1<<24), w/(1<<20)%16, w/(1<<16)%16, w%(1<<16)
	low := imm
	if low >= 1<<15 {
		low -= 1 << 16
	}
	switch {
	case op == 1:
		return op, a, b, low, a < 12 && b == 0
	case op == 2 || op == 42 || op == 45 || op == 46 || op == 47:
		return op, a, b, imm, a < 12 && b == 0 && imm == 0
	case op == 3 || op >= 24 && op <= 26 || op == 29:
		return op, a, b, imm, a < 12 && b < 12 && imm == 0
	case op == 4 || op == 27 || op == 28:
		return op, a, b, low, a < 12 && b < 12
	case op >= 5 && op <= 23:
		return op, a, b, imm, a < 12 && b < 12 && imm < 12
	case op >= 30 && op <= 39:
		return op, a, b, low, a < 12 && b < 12 && low >= -128 && low <= 127
	case op == 40:
		return op, a, b, low, a == 0 && b == 0 && low >= -128 && low <= 127
	case op == 41 || op == 43 || op == 44:
		return op, a, b, imm, a == 0 && b == 0 && imm == 0
	case op == 48:
		return op, a, b, imm, a == 0 && b == 0 && imm < 256
	}
	return 0, 0, 0, 0, false
}

// signed is a word as the number for which it stands.
func signed(w int64) int64 {
	if w >= 1<<31 {
		return w - whole
	}
	return w
}

// worded is a number as a word.
func worded(n int64) int64 {
	return (n%whole + whole) % whole
}

func bit(is bool) int64 {
	if is {
		return 1
	}
	return 0
}

// bits puts two words together bit by bit.
func bits(b, c int64, of func(x, y int64) bool) int64 {
	n := int64(0)
	for k := range 32 {
		n += bit(of(b>>k%2, c>>k%2)) << k
	}
	return n
}

// reckoned is what MacADD to MacLEU make of two words, if that is anything.
func reckoned(op, b, c int64) (int64, bool) {
	switch op {
	case api.MacADD:
		return b + c, true
	case api.MacSUB:
		return b - c, true
	case api.MacMUL:
		// By halves of the right one: so nothing goes over what a whole number holds.
		return b*(c%(1<<16)) + b*(c/(1<<16))%(1<<16)*(1<<16), true
	case api.MacDIVS, api.MacDIVU, api.MacREMS, api.MacREMU:
		return divided(op, b, c)
	case api.MacAND:
		return bits(b, c, func(x, y int64) bool { return x+y == 2 }), true
	case api.MacOR:
		return bits(b, c, func(x, y int64) bool { return x+y > 0 }), true
	case api.MacXOR:
		return bits(b, c, func(x, y int64) bool { return x+y == 1 }), true
	case api.MacSHL:
		return b * (1 << (c % 32)) % whole, true
	case api.MacSHRS:
		n := signed(b)
		for range c % 32 {
			n = (n - worded(n)%2) / 2
		}
		return n, true
	case api.MacSHRU:
		return b / (1 << (c % 32)), true
	case api.MacEQ:
		return bit(b == c), true
	case api.MacNE:
		return bit(b != c), true
	case api.MacLTS:
		return bit(signed(b) < signed(c)), true
	case api.MacLTU:
		return bit(b < c), true
	case api.MacLES:
		return bit(signed(b) <= signed(c)), true
	case api.MacLEU:
		return bit(b <= c), true
	}
	return 0, false
}

func divided(op, b, c int64) (int64, bool) {
	if c == 0 {
		return 0, false
	}
	switch op {
	case api.MacDIVU:
		return b / c, true
	case api.MacREMU:
		return b % c, true
	case api.MacDIVS:
		return signed(b) / signed(c), true
	}
	return signed(b) - signed(b)/signed(c)*signed(c), true
}

// goes tells whether a branch goes where it leads.
func goes(op, a, b int64) bool {
	switch op {
	case api.MacBEQ:
		return a == b
	case api.MacBNE:
		return a != b
	case api.MacBLTS:
		return signed(a) < signed(b)
	case api.MacBGES:
		return signed(a) >= signed(b)
	case api.MacBLES:
		return signed(a) <= signed(b)
	case api.MacBGTS:
		return signed(a) > signed(b)
	case api.MacBLTU:
		return a < b
	case api.MacBGEU:
		return a >= b
	case api.MacBLEU:
		return a <= b
	case api.MacBGTU:
		return a > b
	}
	return false
}

func (o *other) step() stopped {
	w, is := o.word(o.place)
	if !is {
		return trapped(api.TrapPlace)
	}
	op, a, b, imm, is := parted(w)
	if !is {
		return trapped(api.TrapOp)
	}
	o.place++
	switch op {
	case api.MacLIT, api.MacJML, api.MacJTAB, api.MacCALL:
		if _, is := o.word(o.place); !is {
			return trapped(api.TrapPlace)
		}
	}
	switch {
	case op == api.MacLD || op == api.MacST:
		return o.remember(op, a, worded(o.registers[b]+imm))
	case op >= api.MacBEQ && op <= api.MacJMP:
		if op == api.MacJMP || goes(op, o.registers[a], o.registers[b]) {
			o.place += imm
		}
		return stopped{}
	case op >= api.MacJML && op <= api.MacRET:
		return o.lead(op, o.registers[a])
	case op >= api.MacGETC || op == api.MacCHK:
		return o.rest(op, a, b, imm)
	}
	n, is := o.made(op, b, imm)
	if !is {
		return trapped(api.TrapDiv)
	}
	o.registers[a] = worded(n)
	return stopped{}
}

// made is what an instruction makes that does nothing but set a register.
func (o *other) made(op, b, imm int64) (int64, bool) {
	right := o.registers[b]
	switch op {
	case api.MacLI:
		return imm, true
	case api.MacLIT:
		o.place++
		return int64(o.m.Words[o.place-1]), true
	case api.MacMOV:
		return right, true
	case api.MacNEG:
		return -right, true
	case api.MacNOT:
		return whole - 1 - right, true
	case api.MacLOW:
		return right % 256, true
	case api.MacADDI:
		return right + imm, true
	}
	return reckoned(op, right, o.registers[imm])
}

// rest does MacCHK, what reads and writes bytes, and what stops.
func (o *other) rest(op, a, b, imm int64) stopped {
	left := o.registers[a]
	switch op {
	case api.MacCHK:
		if left >= o.registers[b] {
			return trapped(api.TrapIndex)
		}
	case api.MacPUTC:
		o.output = append(o.output, byte(left%256))
	case api.MacGETC:
		o.registers[a] = whole - 1
		if len(o.input) > 0 {
			o.registers[a] = int64(o.input[0])
			o.input = o.input[1:]
		}
	case api.MacEXIT:
		return stopped{api.StopExit, left}
	case api.MacTRAP:
		return trapped(imm)
	}
	return stopped{}
}

// remember does MacLD and MacST.
func (o *other) remember(op, a, at int64) stopped {
	if at >= 524288 {
		return trapped(api.TrapMem)
	}
	if op == api.MacST {
		o.memory[at] = o.registers[a]
		return stopped{}
	}
	w, is := o.memory[at]
	if !is && at < int64(len(o.m.Data)) {
		w = int64(o.m.Data[at])
	}
	o.registers[a] = w
	return stopped{}
}

// lead does what leads elsewhere, but for branches and MacJMP.
func (o *other) lead(op, left int64) stopped {
	behind, _ := o.word(o.place)
	switch op {
	case api.MacJML:
		o.place = behind
	case api.MacJTAB:
		if left >= behind {
			return trapped(api.TrapTable)
		}
		w, is := o.word(o.place + 1 + left)
		if !is {
			return trapped(api.TrapPlace)
		}
		o.place = w
	case api.MacCALL:
		if len(o.back) == 50 {
			return trapped(api.TrapDepth)
		}
		o.back = append(o.back, o.place+1)
		o.place = behind
	case api.MacRET:
		if len(o.back) == 0 {
			return trapped(api.TrapReturn)
		}
		o.place = o.back[len(o.back)-1]
		o.back = o.back[:len(o.back)-1]
	}
	return stopped{}
}
