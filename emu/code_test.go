package emu_test

import (
	"math/rand"
	"slices"
	"testing"

	"switchback/api"
)

// edges are words at which something comes to an end.
func edges() []uint32 {
	return []uint32{0, 1, 2, 3, 7, 10, 31, 32, 33, 63, 64, 127, 128, 255, 256, 257, 32767, 32768, 65535, 65536, 1<<31 - 2, 1<<31 - 1, 1 << 31, 1<<31 + 1, 1<<32 - 256, 1<<32 - 255, 1<<32 - 33, 1<<32 - 32, 1<<32 - 31, 1<<32 - 3, 1<<32 - 2, 1<<32 - 1}
}

// TestTwoWords has each instruction that makes a word of one or two, by all pairs of words at the ends.
func TestTwoWords(t *testing.T) {
	t.Parallel()
	for _, b := range edges() {
		for _, c := range edges() {
			for op := api.MacADD; op <= api.MacLEU; op++ {
				ran(t, image(lit(1), b, lit(2), c, ins(op, 3, 1, 2), exit(3)), "", 9)
			}
			for _, op := range []int{api.MacMOV, api.MacNEG, api.MacNOT, api.MacLOW, api.MacCHK} {
				ran(t, image(lit(1), b, lit(2), c, ins(op, 2, 1, 0), exit(2)), "", 9)
			}
			for op := api.MacBEQ; op <= api.MacBGTU; op++ {
				ran(t, image(lit(1), b, lit(2), c, ins(op, 1, 2, 1), trap(100), exit(1)), "", 9)
			}
		}
	}
}

// TestReckoned has some instructions with what they make.
func TestReckoned(t *testing.T) {
	for _, x := range []struct {
		op         int
		b, c, want uint32
	}{
		{api.MacADD, 1<<32 - 1, 2, 1}, {api.MacSUB, 1, 3, 1<<32 - 2}, {api.MacMUL, 1<<31 + 1, 2, 2}, {api.MacMUL, 1<<32 - 1, 1<<32 - 1, 1},
		{api.MacDIVS, 1<<32 - 7, 2, 1<<32 - 3}, {api.MacDIVS, 7, 1<<32 - 2, 1<<32 - 3}, {api.MacDIVS, 1<<32 - 7, 1<<32 - 2, 3}, {api.MacDIVS, 1 << 31, 1<<32 - 1, 1 << 31}, {api.MacDIVU, 1<<32 - 7, 2, 1<<31 - 4}, {api.MacDIVU, 7, 1<<32 - 2, 0},
		{api.MacREMS, 1<<32 - 7, 2, 1<<32 - 1}, {api.MacREMS, 7, 1<<32 - 2, 1}, {api.MacREMS, 1 << 31, 1<<32 - 1, 0}, {api.MacREMU, 1<<32 - 7, 10, 9}, {api.MacREMU, 7, 1<<32 - 2, 7},
		{api.MacAND, 12, 10, 8}, {api.MacOR, 12, 10, 14}, {api.MacXOR, 12, 10, 6},
		{api.MacSHL, 3, 31, 1 << 31}, {api.MacSHL, 3, 32, 3}, {api.MacSHL, 3, 33, 6}, {api.MacSHL, 5, 1<<32 - 1, 1 << 31}, {api.MacSHRS, 1<<32 - 8, 1, 1<<32 - 4}, {api.MacSHRS, 1 << 31, 31, 1<<32 - 1}, {api.MacSHRS, 8, 33, 4}, {api.MacSHRU, 1<<32 - 8, 1, 1<<31 - 4}, {api.MacSHRU, 1 << 31, 31, 1}, {api.MacSHRU, 8, 32, 8},
		{api.MacEQ, 5, 5, 1}, {api.MacEQ, 5, 6, 0}, {api.MacNE, 5, 5, 0}, {api.MacNE, 5, 6, 1},
		{api.MacLTS, 1<<32 - 1, 0, 1}, {api.MacLTS, 0, 1<<32 - 1, 0}, {api.MacLTS, 4, 4, 0}, {api.MacLTU, 1<<32 - 1, 0, 0}, {api.MacLTU, 0, 1<<32 - 1, 1}, {api.MacLTU, 4, 4, 0},
		{api.MacLES, 1<<32 - 1, 0, 1}, {api.MacLES, 0, 1<<32 - 1, 0}, {api.MacLES, 4, 4, 1}, {api.MacLEU, 1<<32 - 1, 0, 0}, {api.MacLEU, 0, 1<<32 - 1, 1}, {api.MacLEU, 4, 4, 1},
	} {
		exits(t, "of two words", image(lit(1), x.b, lit(2), x.c, ins(x.op, 3, 1, 2), exit(3)), x.want, 4)
	}
	for _, x := range []struct {
		op      int
		b, want uint32
	}{{api.MacMOV, 1<<32 - 1, 1<<32 - 1}, {api.MacNEG, 1, 1<<32 - 1}, {api.MacNEG, 1 << 31, 1 << 31}, {api.MacNEG, 0, 0}, {api.MacNOT, 0, 1<<32 - 1}, {api.MacNOT, 5, 1<<32 - 6}, {api.MacLOW, 511, 255}, {api.MacLOW, 1<<32 - 1, 255}, {api.MacLOW, 256, 0}} {
		exits(t, "of one word", image(lit(1), x.b, ins(x.op, 3, 1, 0), exit(3)), x.want, 3)
	}
}

// TestNumbers has the numbers that stand in MacLI and MacADDI.
func TestNumbers(t *testing.T) {
	for _, n := range []int{-32768, -32767, -256, -129, -1, 0, 1, 127, 128, 255, 256, 32766, 32767} {
		exits(t, "MacLI", image(lit(4), 99, li(4, n), exit(4)), uint32(n), 3)
		for _, w := range edges() {
			exits(t, "MacADDI", image(lit(4), w, ins(api.MacADDI, 5, 4, n), exit(5)), w+uint32(n), 3)
			exits(t, "MacADDI into itself", image(lit(4), w, ins(api.MacADDI, 4, 4, n), exit(4)), w+uint32(n), 3)
		}
	}
	for _, w := range edges() {
		exits(t, "MacLIT", image(lit(11), w, exit(11)), w, 2)
	}
}

// filled are words that give each register a number of its own.
func filled(r *rand.Rand) []uint32 {
	var words []uint32
	for k := range 12 {
		words = append(words, lit(k), uint32(r.Intn(1000)*12+k))
		if r.Intn(2) == 0 {
			words[len(words)-1] += edges()[r.Intn(len(edges()))]
		}
	}
	return words
}

// TestRegisters has each instruction with all sorts of registers, also the same one twice or thrice: of each register it is asked what is in it then.
func TestRegisters(t *testing.T) {
	t.Parallel()
	r := rand.New(rand.NewSource(1))
	for op := api.MacLI; op <= api.MacTRAP; op++ {
		for range 60 {
			c := api.Code{Op: op, A: r.Intn(12), B: r.Intn(12), Imm: r.Intn(12)}
			if r.Intn(4) == 0 {
				c.B = c.A
			}
			if r.Intn(4) == 0 {
				c.Imm = c.B
			}
			begin := filled(r)
			word, is := fitting(c)
			if !is {
				t.Fatalf("%+v", c)
			}
			behind := uint32(len(begin) + 2)
			for k := range 12 {
				// What follows is a word for what has one behind it, and an exit for what has none.
				m := image(slices.Concat(begin, []uint32{word, behind}, slices.Repeat([]uint32{exit(k)}, 13))...)
				if op != api.MacLIT && op != api.MacJML && op != api.MacCALL && op != api.MacJTAB {
					m.Words[len(begin)+1] = exit(k)
				}
				m.Data = []uint32{7, 6, 5, 4, 3}
				ran(t, m, "\xfe", 99)
			}
		}
	}
}

// fitting is the word of an instruction, with 0 in the fields that it does not have.
func fitting(c api.Code) (uint32, bool) {
	for _, fields := range [][3]int{{1, 1, 1}, {1, 1, 0}, {1, 0, 1}, {1, 0, 0}, {0, 0, 1}, {0, 0, 0}} {
		w := int64(c.Op)<<24 + int64(c.A*fields[0])<<20 + int64(c.B*fields[1])<<16 + int64(c.Imm*fields[2])
		if _, _, _, _, is := parted(w); is {
			return uint32(w), true
		}
	}
	return 0, false
}

// TestAllAreNoughts: at first all registers are 0, and the memory.
func TestAllAreNoughts(t *testing.T) {
	for k := range 12 {
		exits(t, "a register", image(exit(k)), 0, 1)
		exits(t, "a word of the memory", image(lit(k), 524287, load(k, k, 0), exit(k)), 0, 3)
		exits(t, "another one", image(li(k, 9), load(k, k, -9), exit(k)), 0, 3)
	}
}

// TestBranchesGo has branches and MacJMP by all displacements, from where there are words on both sides, and from where there are none.
func TestBranchesGo(t *testing.T) {
	t.Parallel()
	words := make([]uint32, 300)
	for i := range words {
		words[i] = trap(i % 256)
	}
	for n := -128; n <= 127; n++ {
		for _, w := range []uint32{jmp(n), ins(api.MacBEQ, 3, 4, n), ins(api.MacBGEU, 3, 4, n), ins(api.MacBNE, 3, 4, n), ins(api.MacBLTS, 4, 4, n)} {
			for _, at := range []int{0, 1, 127, 128, 150, 171, 172, 173, 298, 299} {
				if n == -1 && w>>24 != api.MacBNE && w>>24 != api.MacBLTS {
					continue
				}
				m := image(slices.Clone(words)...)
				m.Words[at], m.Entry = w, at
				o := ran(t, m, "", 99)
				to := at + 1 + n
				if w>>24 == api.MacBNE || w>>24 == api.MacBLTS {
					to = at + 1
				}
				want := uint32(to % 256)
				if to < 0 || to >= 300 {
					want = api.TrapPlace
				}
				is(t, "a branch", o, api.StopTrap, want, 2, "")
			}
		}
	}
}
