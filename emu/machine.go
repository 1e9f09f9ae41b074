package emu

import (
	"strings"

	"switchback/api"
	"switchback/enc"
	"switchback/word"
)

// machine is B12 at work.
type machine struct {
	words     []uint32
	list      []instruction // the words, read as instructions
	registers [12]uint32
	memory    *memory
	input     string
	output    strings.Builder
	back      []int // the places to come back to
	place     int
	steps     int
	stop      int // 0 while it goes on
	code      uint32
	works     [api.InsLeU + 1]func(a, b uint32) uint32
}

// instruction is an instruction; of a word that is none the op is 0.
type instruction struct {
	op, a, b uint8
	imm      int32
}

func start(m api.Image, input string) *machine {
	r := &machine{
		words:  m.Words,
		list:   make([]instruction, len(m.Words)),
		memory: newMemory(m.Data),
		input:  input,
		place:  m.Entry,
		works:  word.Works(),
	}
	for i, w := range m.Words {
		if c, e := enc.Decode(w); e == api.OK {
			r.list[i] = instruction{uint8(c.Op), uint8(c.A), uint8(c.B), int32(c.Imm)}
		}
	}
	return r
}

// trap is what is thrown where a run traps: the trap's number.
type trap uint32

// trapOf tells which trap was thrown; what the machine has not thrown goes on.
func trapOf(thrown any) uint32 {
	if t, ok := thrown.(trap); ok {
		return uint32(t)
	}
	panic(thrown)
}

// run takes steps until the machine stops.
func (r *machine) run(fuel int) {
	defer func() {
		if thrown := recover(); thrown != nil {
			r.halt(api.StopTrap, trapOf(thrown))
		}
	}()
	for r.stop == 0 {
		if r.steps == fuel {
			r.halt(api.StopFuel, 0)
			return
		}
		r.steps++
		r.do(r.next())
	}
}

func (r *machine) halt(stop int, code uint32) {
	r.stop, r.code = stop, code
}

// next is the instruction at the machine's place; the place goes on behind it.
func (r *machine) next() instruction {
	if !r.stands(uint64(r.place)) {
		panic(trap(api.TrapPlace))
	}
	i := r.list[r.place]
	r.place++
	return i
}

// behind is the word behind an instruction; the place goes on behind it.
func (r *machine) behind() uint32 {
	w := r.word(uint64(r.place))
	r.place++
	return w
}

// word is the word at a place, which must be there.
func (r *machine) word(place uint64) uint32 {
	if !r.stands(place) {
		panic(trap(api.TrapPlace))
	}
	return r.words[place]
}

// stands tells whether there is a word at a place. (A place below 0 is far beyond them all, being read as a number that is not.)
func (r *machine) stands(place uint64) bool {
	return place < uint64(len(r.words))
}
