package emit_test

import (
	"testing"

	"switchback/api"
	"switchback/run"
)

// mixed are temps of each sort: the first register, the last one, the first slot, and another one.
func mixed() []int { return []int{0, 8, 9, 13} }

// many is how many temps the functions of these tests have.
const many = 14

// edges are words at which reckoning turns.
func edges() []uint32 {
	return []uint32{0, 1, 2, 7, 33, 255, 256, 1<<31 - 1, 1 << 31, 1<<32 - 7, 1<<32 - 2, 1<<32 - 1}
}

// all are instructions that set each temp to a word of its own.
func all() []api.Ins {
	var code []api.Ins
	for temp := range many {
		code = append(code, set(temp, uint32(1000+temp)))
	}
	return code
}

// shown are instructions that put out each temp's lowest byte.
func shown() []api.Ins {
	var code []api.Ins
	for temp := range many {
		code = append(code, putc(temp))
	}
	return code
}

// around is a function in which each temp holds a word of its own, two of them those of the global scalars 0 and 1, when it comes to some instructions; behind them it shows all temps, and gives one of them back.
func around(a, b, d int, code ...api.Ins) api.Graph {
	whole := append(all(), load(a, 0), load(b, 1))
	return fn(many, block(back(d), append(append(whole, code...), shown()...)...))
}

// alike checks that runs of a module and of its image end in the same way.
func alike(t *testing.T, m api.Module, input string) api.Outcome {
	t.Helper()
	want, e := run.Run(m, input, 1000000)
	got := outcome(t, m, input)
	if e != api.OK || got.Stop != want.Stop || got.Code != want.Code || got.Output != want.Output {
		t.Fatalf("%+v, %d, the image %+v: %s", want, e, got, short(m))
	}
	return want
}

// TestReckoning has each instruction that reckons, with each mixture of registers and slots, the same ones among them.
func TestReckoning(t *testing.T) {
	t.Parallel()
	for op := api.InsAdd; op <= api.InsLeU; op++ {
		for k := op % 2; k < len(edges()); k += 2 {
			x := edges()[k]
			for _, d := range mixed() {
				for _, a := range mixed() {
					for i, b := range mixed() {
						y := edges()[(k*5+i+d+a+op)%len(edges())]
						m := of(around(a, b, d, two(op, d, a, b)))
						m.Globals = []uint32{x, y}
						alike(t, m, "")
					}
				}
			}
		}
	}
}

// TestReckoningByEdges has each instruction that reckons with each two words at the edges.
func TestReckoningByEdges(t *testing.T) {
	t.Parallel()
	for op := api.InsAdd; op <= api.InsLeU; op++ {
		for _, x := range edges() {
			for _, y := range edges() {
				for _, temps := range [][3]int{{2, 3, 4}, {9, 10, 11}} {
					m := of(around(temps[1], temps[2], temps[0], two(op, temps[0], temps[1], temps[2])))
					m.Globals = []uint32{x, y}
					o := alike(t, m, "")
					if divides := op >= api.InsDivS && op <= api.InsRemU; divides && y == 0 != (o.Stop == api.StopTrap && o.Code == api.TrapDiv) {
						t.Fatalf("%d of %d and %d: %+v", op, x, y, o)
					}
				}
			}
		}
	}
}

// TestOneWord has the instructions that have one word or none, with each mixture of registers and slots.
func TestOneWord(t *testing.T) {
	t.Parallel()
	for _, d := range mixed() {
		for _, a := range mixed() {
			for _, x := range edges() {
				code := []api.Ins{set(d, x), load(d, 1), getc(d), store(0, a), store(1, a), putc(a), exit(a)}
				for op := api.InsMove; op <= api.InsLow; op++ {
					code = append(code, one(op, d, a))
				}
				for _, i := range code {
					m := of(around(a, a, d, i, load(3, 0), load(12, 1)))
					m.Globals = []uint32{7, x}
					alike(t, m, "")
					alike(t, m, "\xfe")
				}
			}
		}
	}
}

// TestNumbers has constants at the ends of what an instruction of one word can hold.
func TestNumbers(t *testing.T) {
	for _, n := range append(edges(), 32766, 32767, 32768, 32769, 65535, 65536, 1<<32-32769, 1<<32-32768, 1<<32-32767, 0x12345678) {
		for _, d := range mixed() {
			ends(t, of(fn(many, block(back(d), set(d, n)))), "", api.StopExit, n, "")
		}
	}
}

// TestMoves has words that go round.
func TestMoves(t *testing.T) {
	for _, a := range mixed() {
		for _, b := range mixed() {
			for c := range many {
				m := of(around(a, b, a, one(api.InsMove, c, a), one(api.InsMove, a, b), one(api.InsMove, b, c), one(api.InsMove, c, c)))
				m.Globals = []uint32{77, 78}
				alike(t, m, "")
			}
		}
	}
}

// TestEachGlobal has as many global scalars as there may be, each of which holds another word.
func TestEachGlobal(t *testing.T) {
	m := of(fn(11))
	for f := range api.MaxGlobals {
		m.Globals = append(m.Globals, uint32(f*f))
	}
	var code []api.Ins
	for f := range api.MaxGlobals {
		code = append(code, load(f%11, f), putc(f%11), one(api.InsNot, 10-f%11, f%11), store(f, 10-f%11))
	}
	for f := range api.MaxGlobals {
		code = append(code, load(f%11, f), putc(f%11))
	}
	m.Funcs[0].Blocks = []api.Block{block(back(0), code...)}
	o := alike(t, m, "")
	if o.Output[:4] != "\x00\x01\x04\x09" || o.Output[200:204] != "\xff\xfe\xfb\xf6" {
		t.Errorf("%q", o.Output)
	}
}

// TestInput has bytes of all sorts, and what comes behind their end.
func TestInput(t *testing.T) {
	for _, d := range mixed() {
		m := of(fn(many, block(back(d), getc(d), putc(d), getc(d), putc(d), getc(d))))
		ends(t, m, "a\x80\xff", api.StopExit, 255, "a\x80")
		ends(t, m, "a\x80", api.StopExit, 1<<32-1, "a\x80")
		ends(t, m, "", api.StopExit, 1<<32-1, "\xff\xff")
	}
}

// TestExit has a run that ends within a function that was called, with what is behind it.
func TestExit(t *testing.T) {
	for _, a := range mixed() {
		f := fn(many, block(back(a), append(all(), exit(a), putc(a))...))
		ends(t, of(fn(1, block(back(0), call(0, 1), putc(0))), f), "", api.StopExit, uint32(1000+a), "")
	}
}
