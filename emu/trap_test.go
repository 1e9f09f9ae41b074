package emu_test

import (
	"slices"
	"testing"

	"switchback/api"
	"switchback/emu"
)

// at is an image that begins at another word.
func at(entry int, m api.Image) api.Image {
	m.Entry = entry
	return m
}

// TestTrapPlace has places that are none, words behind that are none, and table's words that are none.
func TestTrapPlace(t *testing.T) {
	traps(t, "behind the last word", image(li(0, 0)), api.TrapPlace, 2)
	traps(t, "below 0", image(jmp(-2)), api.TrapPlace, 2)
	traps(t, "far below 0", image(jmp(-128)), api.TrapPlace, 2)
	traps(t, "below 0 by a branch", image(ins(api.MacBEQ, 0, 0, -2)), api.TrapPlace, 2)
	exits(t, "just not below 0", at(1, image(exit(0), jmp(-2))), 0, 2)
	traps(t, "just below 0", at(1, image(exit(0), jmp(-3))), api.TrapPlace, 2)
	exits(t, "just not behind all", image(jmp(1), 0, exit(0)), 0, 2)
	traps(t, "just behind all", image(jmp(2), 0, exit(0)), api.TrapPlace, 2)
	for _, to := range []uint32{3, 4, 65535, 65536, 1<<31 - 1, 1 << 31, 1<<32 - 2, 1<<32 - 1} {
		traps(t, "MacJML", image(jml(), to, exit(0)), api.TrapPlace, 2)
		traps(t, "MacCALL", image(call(), to, exit(0)), api.TrapPlace, 2)
		traps(t, "MacJTAB", image(jtab(0), 1, to), api.TrapPlace, 2)
	}
	exits(t, "MacJML to the last word", image(jml(), 2, exit(0)), 0, 2)
	for _, w := range []uint32{lit(0), jml(), call(), jtab(0)} {
		traps(t, "no word behind", image(w), api.TrapPlace, 1)
		traps(t, "no word behind, farther on", image(li(1, 1), w), api.TrapPlace, 2)
	}
	traps(t, "the word behind MacLIT is there", image(lit(0), 5), api.TrapPlace, 2)
	traps(t, "a return behind all words", image(jmp(2), ret(), 0, call(), 1), api.TrapPlace, 4)
}

// TestTables has tables, their first and last words, numbers that they do not have, and words that are missing.
func TestTables(t *testing.T) {
	table := func(number uint32, n uint32, words ...uint32) api.Image {
		return image(append([]uint32{exit(1), exit(2), lit(0), number, jtab(0), n}, words...)...)
	}
	exits(t, "the first", at(2, table(0, 3, 0, 99, 99)), 0, 3)
	exits(t, "the last", at(2, table(2, 3, 99, 99, 1)), 0, 3)
	traps(t, "one behind the last", at(2, table(3, 3, 0, 0, 0, 0)), api.TrapTable, 2)
	traps(t, "far behind", at(2, table(1<<32-1, 3, 0, 0, 0)), api.TrapTable, 2)
	traps(t, "one below 2^31", at(2, table(1<<31, 1<<31, 0, 0, 0)), api.TrapTable, 2)
	traps(t, "no word", at(2, table(0, 0)), api.TrapTable, 2)
	traps(t, "no word, and others behind", at(2, table(0, 0, 0, 0)), api.TrapTable, 2)
	exits(t, "the last word of all", at(2, table(1, 2, 99, 1)), 0, 3)
	traps(t, "a word behind all", at(2, table(2, 3, 0, 0)), api.TrapPlace, 2)
	traps(t, "far behind all", at(2, table(1<<31, 1<<31+1, 0, 0)), api.TrapPlace, 2)
	// The place of the word would come round to a word that is there.
	for n := uint32(1); n < 10; n++ {
		traps(t, "over 2^32", at(2, table(1<<32-1-n, 1<<32-1, 0, 0)), api.TrapPlace, 2)
	}
	traps(t, "a number far beyond", at(2, table(1<<32-1, 1<<32-1, 0, 0)), api.TrapTable, 2)
	for number := range uint32(5) {
		words := []uint32{lit(9), number, jtab(9), 4, 8, 10, 12, 8, li(1, 1), exit(1), li(1, 2), exit(1), li(1, 3), exit(1)}
		if number == 4 {
			traps(t, "of four", image(words...), api.TrapTable, 2)
			continue
		}
		exits(t, "of four", image(words...), []uint32{1, 2, 3, 1}[number], 4)
	}
}

// TestTrapOp has words that are no instruction's.
func TestTrapOp(t *testing.T) {
	for _, w := range []uint32{0, 1, 0xffff, 0x31000000, 0xff000000, 1<<32 - 1, 0x01010000, 0x01c00000, 0x02000001, 0x03c00000, 0x030c0000, 0x03000001, 0x0500000c, 0x0500ffff, 0x1e000080, 0x1e00ff7f, 0x28000080, 0x28010000, 0x28100000, 0x29000001, 0x2c100000, 0x2c000001, 0x2f010000, 0x30000100, 0x30100000, 0x3000ffff} {
		traps(t, "at the first word", image(w, exit(0)), api.TrapOp, 1)
		traps(t, "at the last word", image(li(1, 1), jmp(0), w), api.TrapOp, 3)
	}
	exits(t, "a word that is not reached", image(jmp(1), 0, exit(0)), 0, 2)
	exits(t, "a word behind", image(lit(0), 0, exit(1)), 0, 2)
	traps(t, "a literal as an instruction", image(jml(), 3, lit(0), 0), api.TrapOp, 2)
	exits(t, "a literal as another instruction", image(jml(), 3, lit(0), exit(3)), 0, 2)
}

// TestTrapDiv has the four divisions by 0, and by others.
func TestTrapDiv(t *testing.T) {
	for _, op := range []int{api.MacDIVS, api.MacDIVU, api.MacREMS, api.MacREMU} {
		for _, w := range edges() {
			traps(t, "by 0", image(lit(1), w, ins(op, 2, 1, 3), exit(2)), api.TrapDiv, 2)
			traps(t, "by 0 of the same register", image(lit(1), w, ins(op, 1, 1, 3), exit(2)), api.TrapDiv, 2)
		}
		traps(t, "0 by 0", image(ins(op, 0, 0, 0)), api.TrapDiv, 1)
		exits(t, "0 by 1", image(li(1, 1), ins(op, 2, 0, 1), exit(2)), 0, 3)
	}
}

// TestTrapIndex has MacCHK at its edges.
func TestTrapIndex(t *testing.T) {
	for _, a := range edges() {
		for _, b := range edges() {
			m := image(lit(1), a, lit(2), b, ins(api.MacCHK, 1, 2, 0), exit(1))
			if a < b {
				exits(t, "below", m, a, 4)
				continue
			}
			traps(t, "not below", m, api.TrapIndex, 3)
		}
	}
}

// TestTrapMem has places in the memory about its ends.
func TestTrapMem(t *testing.T) {
	for _, x := range []struct {
		base uint32
		imm  int
	}{{0, 0}, {0, 1}, {0, 32767}, {524287, 0}, {524288, -1}, {524286, 1}, {491520, 32767}, {1<<32 - 1, 1}, {1<<32 - 1, 32767}, {1<<32 - 32767, 32767}, {1 << 15, -32768}, {4096, -1}, {4095, 0}, {4096, 0}} {
		place := x.base + uint32(x.imm)
		m := image(lit(1), x.base, lit(2), 77, lit(3), place, store(2, 1, x.imm), load(4, 3, 0), exit(4))
		exits(t, "stored, and loaded otherwise", m, 77, 6)
		exits(t, "loaded alone", image(lit(1), x.base, li(4, 9), load(4, 1, x.imm), exit(4)), 0, 4)
	}
	for _, x := range []struct {
		base uint32
		imm  int
	}{{524288, 0}, {524287, 1}, {524289, -1}, {0, -1}, {32767, -32768}, {1<<32 - 1, 0}, {1 << 31, 0}, {1<<32 - 32768, 32767}, {491521, 32767}, {1<<31 - 1, 1}, {1<<32 - 1, -1}, {1<<32 - 524288, 0}, {1 << 20, 0}, {1<<31 + 5, -5}} {
		traps(t, "stored", image(lit(1), x.base, store(1, 1, x.imm), exit(1)), api.TrapMem, 2)
		traps(t, "loaded", image(lit(1), x.base, load(1, 1, x.imm), exit(1)), api.TrapMem, 2)
	}
}

// TestTrapDepth has calls one within the other.
func TestTrapDepth(t *testing.T) {
	// A function that calls itself as often as R1 says, and counts in R2 how often it comes back.
	words := []uint32{call(), 3, exit(2), ins(api.MacBEQ, 1, 0, 3), ins(api.MacADDI, 1, 1, -1), call(), 3, ins(api.MacADDI, 2, 2, 1), ret()}
	for n := range 60 {
		m := at(9, image(append(slices.Clone(words), li(1, n), jmp(-11))...))
		if n < 50 {
			exits(t, "calls", m, uint32(n+1), 2+1+3*n+1+2*(n+1)+1)
			continue
		}
		traps(t, "the 51st call", m, api.TrapDepth, 2+1+3*50)
	}
	traps(t, "calls of itself", image(call(), 0), api.TrapDepth, 51)
	// 200 calls, one behind the other.
	exits(t, "calls that are over", image(lit(1), 200, call(), 7, ins(api.MacADDI, 1, 1, -1), ins(api.MacBNE, 1, 0, -4), exit(2), ins(api.MacADDI, 2, 2, 1), ret()), 200, 200*5+2)
}

// deep are words that call one place after the other, 50 times in all, and then go on behind them.
func deep(rest ...uint32) api.Image {
	var words []uint32
	for n := range uint32(50) {
		words = append(words, call(), 2*n+2)
	}
	return image(append(words, rest...)...)
}

// TestFiftyCalls has what stands at a depth of 50.
func TestFiftyCalls(t *testing.T) {
	exits(t, "an exit", deep(exit(0)), 0, 51)
	traps(t, "a call", deep(call(), 0), api.TrapDepth, 51)
	traps(t, "a call to nowhere", deep(call(), 1<<32-1), api.TrapDepth, 51)
	traps(t, "a call without a word behind", deep(call()), api.TrapPlace, 51)
}

// TestTrapReturn has returns where there is no place to come back to.
func TestTrapReturn(t *testing.T) {
	traps(t, "at first", image(ret(), exit(0)), api.TrapReturn, 1)
	traps(t, "behind a call", image(call(), 3, ret(), ret()), api.TrapReturn, 3)
	exits(t, "to the word behind the word behind", image(call(), 3, exit(1), li(1, 8), ret()), 8, 4)
	exits(t, "last in, first out", image(call(), 5, li(1, 1), jmp(7), 0, call(), 9, li(2, 2), ret(), li(3, 3), ret(), ins(api.MacADD, 4, 1, 2), ins(api.MacADD, 4, 4, 3), exit(4)), 6, 11)
}

// TestTraps has MacTRAP by each number, and output ahead of it.
func TestTraps(t *testing.T) {
	for n := range 256 {
		traps(t, "a trap", image(trap(n)), uint32(n), 1)
		is(t, "a trap behind an output", ran(t, image(li(0, 'x'), putc(0), trap(n)), "", 9), api.StopTrap, uint32(n), 3, "x")
	}
	for _, words := range [][]uint32{{0}, {ret()}, {lit(1)}, {ins(api.MacDIVS, 1, 2, 3)}, {load(1, 4, 0)}, {store(1, 4, 0)}, {ins(api.MacCHK, 1, 1, 0)}, {jtab(1), 0}, {call()}, {jmp(-100)}} {
		o := ran(t, image(append([]uint32{li(4, -1), li(0, 'x'), putc(0), putc(4)}, words...)...), "", 99)
		if o.Stop != api.StopTrap || o.Output != "x\xff" {
			t.Errorf("%08x: %+v", words, o)
		}
	}
}

// TestMemory writes into each word of the memory, and reads each of them.
func TestMemory(t *testing.T) {
	t.Parallel()
	data := make([]uint32, 524288)
	sum := uint32(0)
	for i := range data {
		data[i] = uint32(i)*2654435761 + 12345
		sum = sum*31 + data[i]
	}
	// R2 becomes R2 times 31 and the word, for each word from the first to the last.
	adding := []uint32{lit(3), 524288, li(4, 31), load(5, 1, 0), ins(api.MacMUL, 2, 2, 4), ins(api.MacADD, 2, 2, 5), ins(api.MacADDI, 1, 1, 1), ins(api.MacBNE, 1, 3, -5), exit(2)}
	m := image(adding...)
	m.Data = data
	ahead := slices.Clone(data)
	if o, e := emu.Run(m, "", 1<<30); e != api.OK || o.Stop != api.StopExit || o.Code != sum || o.Steps != 2+5*524288+1 {
		t.Errorf("all words of Data: %d, %+v, want %d", e, o, sum)
	}
	sum = 0
	for i := range data {
		sum = sum*31 + uint32(i)*uint32(i)
	}
	// Each word becomes the square of its place; then all are added as above.
	squares := []uint32{lit(3), 524288, ins(api.MacMUL, 5, 1, 1), store(5, 1, 0), ins(api.MacADDI, 1, 1, 1), ins(api.MacBNE, 1, 3, -4), li(1, 0)}
	m.Words = append(squares, adding...)
	m.Kinds = slices.Repeat([]int{3}, len(m.Words))
	for _, n := range []int{0, 1, 4095, 4096, 4097, 524287, 524288} {
		m.Data = data[:n]
		if o, e := emu.Run(m, "", 1<<30); e != api.OK || o.Stop != api.StopExit || o.Code != sum {
			t.Errorf("all words, stored: %d, %+v, want %d", e, o, sum)
		}
	}
	if !slices.Equal(data, ahead) {
		t.Error("Data was written into")
	}
	for _, n := range []int{0, 1, 2, 4095, 4096, 4097, 8192, 524287, 524288} {
		for _, k := range []int{n - 2, n - 1, n, n + 1} {
			if k < 0 || k >= 524288 {
				continue
			}
			m := image(lit(1), uint32(k), load(2, 1, 0), exit(2))
			m.Data = data[:n]
			want := uint32(0)
			if k < n {
				want = data[k]
			}
			exits(t, "about the end of Data", m, want, 3)
		}
	}
}
