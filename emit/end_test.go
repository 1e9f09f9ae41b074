package emit_test

import (
	"slices"
	"testing"

	"switchback/api"
	"switchback/run"
)

// leading is a function in which each temp holds a word of its own when it comes to an end, a and b those of the global scalars 0 and 1. It puts out to which block that leads, and then all temps.
func leading(a, b, blocks int, end api.End) api.Graph {
	g := fn(many, block(end, append(all(), load(a, 0), load(b, 1))...))
	for n := range blocks {
		g.Blocks = append(g.Blocks, block(to(blocks+1), append(shown(), set(2, uint32('A'+n)), putc(2))...))
	}
	g.Blocks = append(g.Blocks, block(back(2)))
	return g
}

// TestIf has each comparison, with each mixture of registers and slots, and leads to the block behind it either way, or to none such.
func TestIf(t *testing.T) {
	t.Parallel()
	words := []uint32{0, 1, 5, 1<<31 - 1, 1 << 31, 1<<32 - 1}
	for op := api.InsEq; op <= api.InsLeU; op++ {
		for _, a := range mixed() {
			for _, b := range mixed() {
				for _, goals := range [][2]int{{1, 2}, {2, 1}, {2, 3}, {3, 1}, {2, 2}, {4, 1}, {1, 4}} {
					for k := (a + b + goals[0]) % 3; k < len(words)*len(words); k += 3 {
						m := of(leading(a, b, 3, either(op, a, b, goals[0], goals[1])))
						m.Globals = []uint32{words[k/len(words)], words[k%len(words)]}
						alike(t, m, "")
					}
				}
			}
		}
	}
}

// TestIfAround has comparisons that lead back: to their own block, and to the block 0, which begins anew.
func TestIfAround(t *testing.T) {
	t.Parallel()
	for op := api.InsEq; op <= api.InsLeU; op++ {
		for _, a := range mixed() {
			for _, b := range mixed() {
				for _, goals := range [][2]int{{0, 1}, {1, 0}, {0, 0}, {1, 1}} {
					count := []api.Ins{load(a, 0), load(b, 1), two(api.InsAdd, a, a, b), store(0, a), putc(a), one(api.InsNot, b, b), store(1, b)}
					m := of(fn(many, block(either(op, a, b, goals[0], goals[1]), count...), block(back(a), putc(b))))
					m.Globals = []uint32{3, 2}
					means(t, m, 200, "")
				}
			}
		}
	}
}

// TestSwitch has switches with no cases, with some, and with as many as there may be.
func TestSwitch(t *testing.T) {
	t.Parallel()
	for _, numbers := range [][]uint32{nil, {0}, {7}, {1<<32 - 1, 0, 1 << 31, 40000, 7}, {5, 6, 4, 7, 3, 8, 2}} {
		e := choose(0, 1)
		for k, n := range numbers {
			e.Cases = append(e.Cases, api.Case{N: n, To: 1 + (k+1)%8})
		}
		for _, a := range mixed() {
			for _, x := range append(edges(), 3, 4, 5, 6, 8, 39999, 40000) {
				e.A = a
				m := of(leading(a, a, 8, e))
				m.Globals = []uint32{x, x}
				alike(t, m, "")
			}
		}
	}
}

// TestManyCases has as many cases as there may be: of all lead some back to where the switch stands.
func TestManyCases(t *testing.T) {
	t.Parallel()
	for _, a := range mixed() {
		e := choose(a, 1)
		for k := range uint32(api.MaxTable) {
			e.Cases = append(e.Cases, api.Case{N: k * 0x10001, To: 1 + int(k%7)})
		}
		for _, k := range []uint32{0, 1, 2, 6, 7, 200, 398, 399, 400} {
			m := of(leading(a, a, 7, e))
			m.Globals = []uint32{k * 0x10001, k * 0x10001}
			alike(t, m, "")
			m.Globals[1]++
			alike(t, m, "")
		}
	}
}

// TestTable has tables that begin at all sorts of numbers, and words at both ends of each, and beyond them.
func TestTable(t *testing.T) {
	t.Parallel()
	for _, n := range []uint32{0, 1, 5, 32767, 40000, 1 << 31, 1<<32 - 2, 1<<32 - 1} {
		for _, size := range []uint32{1, 2, 6, api.MaxTable} {
			var targets []int
			for k := range int(size) {
				targets = append(targets, 2+k%6)
			}
			for _, a := range mixed() {
				for _, x := range []uint32{n - 1, n, n + 1, n + size - 1, n + size, n + size/2, 0, 1<<32 - 1} {
					m := of(leading(a, a, 8, table(a, n, 1, targets...)))
					m.Globals = []uint32{x, x}
					alike(t, m, "")
				}
			}
		}
	}
}

// TestTablesOneBehindTheOther has tables all of whose targets, and whose other way, lead back to the block itself, or to the end.
func TestTablesOneBehindTheOther(t *testing.T) {
	for _, a := range mixed() {
		m := of(fn(many,
			block(table(a, 0, 0, 0, 1, 0), getc(a), putc(a)),
			block(table(a, 2, 2, 0), getc(a), putc(a)),
			block(back(a)),
		))
		ends(t, m, "\x00\x09\x02\x01\x02\x01\x03", api.StopExit, 3, "\x00\x09\x02\x01\x02\x01\x03")
	}
}

// TestReturn has what a function gives back: a temp of each sort, or 0, whatever was given back ahead of it.
func TestReturn(t *testing.T) {
	for _, a := range append(mixed(), 3) {
		g := fn(many, block(back(a), all()...))
		ends(t, of(g), "", api.StopExit, uint32(1000+a), "")
		for _, d := range mixed() {
			ends(t, of(fn(many, block(back(d), call(d, 1))), g), "", api.StopExit, uint32(1000+a), "")
			none := fn(many, block(back(-1), append(all(), call(a, 1))...))
			m := of(fn(many, block(back(d), append(all(), call(d, 2))...)), g, none)
			ends(t, m, "", api.StopExit, 0, "")
		}
	}
	ends(t, of(fn(0, block(back(-1)))), "", api.StopExit, 0, "")
	ends(t, of(fn(1, block(to(2)), block(back(-1)), block(back(0), set(0, 5)))), "", api.StopExit, 5, "")
}

// TestManyReturns has blocks that return in any place, some of which are led to from many.
func TestManyReturns(t *testing.T) {
	g := fn(12, block(choose(0, 4, api.Case{N: 'a', To: 1}, api.Case{N: 'b', To: 2}, api.Case{N: 'c', To: 3}), getc(0)))
	for n := range 3 {
		g.Blocks = append(g.Blocks, block(back([]int{-1, 3, 10}[n]), set(3, 30), set(10, 100)))
	}
	g.Blocks = append(g.Blocks, block(either(api.InsEq, 0, 1, 3, 2)))
	for input, code := range map[string]uint32{"a": 0, "b": 30, "c": 100, "d": 30, "\x00": 100} {
		ends(t, of(g), input, api.StopExit, code, "")
		ends(t, of(fn(11, block(back(10), call(10, 1))), g), input, api.StopExit, code, "")
	}
}

// TestNoEnd has runs that go on for ever.
func TestNoEnd(t *testing.T) {
	for _, m := range []api.Module{
		of(fn(0, block(to(0)))),
		of(fn(0, block(to(1)), block(to(2)), block(to(1)))),
		of(fn(2, block(to(1), set(0, 'x')), block(to(1), putc(0)))),
		of(fn(12, block(either(api.InsEq, 10, 11, 0, 1)), block(back(-1)))),
		of(fn(12, block(choose(10, 0)), block(back(-1)))),
		of(fn(12, block(table(10, 0, 1, 0)), block(back(-1)))),
		of(fn(1, block(to(0), call(0, 1))), fn(0, block(back(-1)))),
	} {
		means(t, m, 500, "")
		if o, _ := run.Run(m, "", 1000); o.Stop != api.StopFuel {
			t.Errorf("%+v: %s", o, short(m))
		}
	}
}

// TestJumpsOverMuch has blocks so far from one another that branches are long.
func TestJumpsOverMuch(t *testing.T) {
	for _, a := range mixed() {
		between := slices.Repeat([]api.Ins{one(api.InsNeg, a, a)}, 200)
		m := of(fn(many,
			block(either(api.InsEq, a, 7, 2, 1), getc(a)),
			block(choose(a, 3, api.Case{N: 'b', To: 0}, api.Case{N: 1<<32 - 'b', To: 2}), between...),
			block(to(0), append(between[:199:199], putc(a))...),
			block(table(a, 'x', 0, 0, 4), between...),
			block(back(a), between...),
		))
		for _, input := range []string{"by", "bxy", "\x00y", "bb\x00xxy", ""} {
			means(t, m, 10000, input)
		}
	}
}
