package emu_test

import (
	"slices"
	"strings"
	"testing"

	"switchback/api"
	"switchback/emu"
	"switchback/enc"
)

// ins is the word of an instruction.
func ins(op, a, b, imm int) uint32 {
	w, e := enc.Encode(api.Code{Op: op, A: a, B: b, Imm: imm})
	if e != api.OK {
		panic(e)
	}
	return w
}

// Words by short names.

func li(a, n int) uint32 { return ins(api.MacLI, a, 0, n) }

func lit(a int) uint32 { return ins(api.MacLIT, a, 0, 0) }

func jmp(n int) uint32 { return ins(api.MacJMP, 0, 0, n) }

func exit(a int) uint32 { return ins(api.MacEXIT, a, 0, 0) }

func putc(a int) uint32 { return ins(api.MacPUTC, a, 0, 0) }

func getc(a int) uint32 { return ins(api.MacGETC, a, 0, 0) }

func jtab(a int) uint32 { return ins(api.MacJTAB, a, 0, 0) }

func load(a, b, n int) uint32 { return ins(api.MacLD, a, b, n) }

func store(a, b, n int) uint32 { return ins(api.MacST, a, b, n) }

func jml() uint32 { return ins(api.MacJML, 0, 0, 0) }

func call() uint32 { return ins(api.MacCALL, 0, 0, 0) }

func ret() uint32 { return ins(api.MacRET, 0, 0, 0) }

func trap(n int) uint32 { return ins(api.MacTRAP, 0, 0, n) }

// image is an image of some words, all of one kind.
func image(words ...uint32) api.Image {
	return api.Image{Words: words, Kinds: slices.Repeat([]int{api.WordIns}, len(words))}
}

func copyOf(m api.Image) api.Image {
	return api.Image{Words: slices.Clone(m.Words), Kinds: slices.Clone(m.Kinds), Data: slices.Clone(m.Data), Entry: m.Entry}
}

func same(a, b api.Image) bool {
	return slices.Equal(a.Words, b.Words) && slices.Equal(a.Kinds, b.Kinds) && slices.Equal(a.Data, b.Data) && a.Entry == b.Entry
}

func short(o api.Outcome) api.Outcome {
	o.Output = o.Output[:min(len(o.Output), 100)]
	return o
}

// ran is what comes of a run, which must be what comes of the second machine's, and change nothing of the image.
func ran(t *testing.T, m api.Image, input string, fuel int) api.Outcome {
	t.Helper()
	ahead := copyOf(m)
	o, e := emu.Run(m, input, fuel)
	if e != api.OK {
		t.Fatalf("%d: %08x", e, m.Words[:min(len(m.Words), 50)])
	}
	if !same(m, ahead) {
		t.Fatalf("changed: %08x", m.Words[:min(len(m.Words), 50)])
	}
	if want := otherRun(m, input, fuel); o != want {
		t.Fatalf("%+v, want %+v: %08x from %d on", short(o), short(want), m.Words[:min(len(m.Words), 50)], m.Entry)
	}
	return o
}

// is checks an outcome: how the run stopped, its steps, and what came out.
func is(t *testing.T, what string, o api.Outcome, stop int, code uint32, steps int, output string) {
	t.Helper()
	if want := (api.Outcome{Stop: stop, Code: code, Steps: steps, Output: output}); o != want {
		t.Errorf("%s: %+v, want %+v", what, short(o), short(want))
	}
}

// exits checks that a run exits with a code.
func exits(t *testing.T, what string, m api.Image, code uint32, steps int) {
	t.Helper()
	is(t, what, ran(t, m, "", 100000), api.StopExit, code, steps, "")
}

// traps checks that a run traps.
func traps(t *testing.T, what string, m api.Image, code uint32, steps int) {
	t.Helper()
	is(t, what, ran(t, m, "", 100000), api.StopTrap, code, steps, "")
}

func TestExamples(t *testing.T) {
	exits(t, "1", image(li(1, 7), exit(1)), 7, 2)
	is(t, "2", ran(t, image(getc(0), putc(0), jmp(-3)), "a", 7), api.StopFuel, 0, 7, "a\xff")
	m := image(li(1, -1), load(0, 1, 1), exit(0))
	m.Data = []uint32{9}
	exits(t, "3", m, 9, 3)
	traps(t, "4", image(li(1, -1), load(0, 1, 0)), api.TrapMem, 2)
	traps(t, "5", image(call(), 0), api.TrapDepth, 51)
	traps(t, "6", image(ret()), api.TrapReturn, 1)
	traps(t, "7", image(jmp(1)), api.TrapPlace, 2)
	traps(t, "8", image(lit(0)), api.TrapPlace, 1)
	traps(t, "9", image(0), api.TrapOp, 1)
}

// TestWhatMayBe has images, inputs and fuels that may be, and such as may not.
func TestWhatMayBe(t *testing.T) {
	good := func() api.Image { return image(li(1, 7), exit(1)) }
	great := func(n int) api.Image { return image(slices.Repeat([]uint32{exit(0)}, n)...) }
	images := []struct {
		m api.Image
		e api.Errno
	}{
		{good(), api.OK}, {great(1), api.OK}, {great(65535), api.OK}, {great(65536), api.OK},
		{api.Image{}, api.ErrArg}, {great(65537), api.ErrArg}, {great(100000), api.ErrArg}, {api.Image{Words: []uint32{}, Kinds: []int{}, Data: []uint32{1}}, api.ErrArg},
	}
	put := func(e api.Errno, change func(m *api.Image)) {
		for _, n := range []int{1, 2, 65536} {
			m := great(n)
			change(&m)
			images = append(images, struct {
				m api.Image
				e api.Errno
			}{m, e})
		}
	}
	for _, k := range []int{1, 2, 3} {
		put(api.OK, func(m *api.Image) { m.Kinds[0] = k })
		put(api.OK, func(m *api.Image) { m.Kinds[len(m.Kinds)-1] = k })
	}
	for _, k := range []int{-1 << 62, -1, 0, 4, 1<<32 + 1, 1 << 62} {
		put(api.ErrArg, func(m *api.Image) { m.Kinds[0] = k })
		put(api.ErrArg, func(m *api.Image) { m.Kinds[len(m.Kinds)/2] = k })
		put(api.ErrArg, func(m *api.Image) { m.Kinds[len(m.Kinds)-1] = k })
	}
	put(api.ErrArg, func(m *api.Image) { m.Kinds = nil })
	put(api.ErrArg, func(m *api.Image) { m.Kinds = m.Kinds[1:] })
	put(api.ErrArg, func(m *api.Image) { m.Kinds = append(m.Kinds, 1) })
	put(api.OK, func(m *api.Image) { m.Data = []uint32{} })
	put(api.OK, func(m *api.Image) { m.Data = make([]uint32, 524288) })
	put(api.ErrArg, func(m *api.Image) { m.Data = make([]uint32, 524289) })
	put(api.OK, func(m *api.Image) { m.Entry = len(m.Words) - 1 })
	for _, n := range []int{-1 << 62, -1 << 32, -1, 65536, 1 << 32, 1 << 62} {
		put(api.ErrArg, func(m *api.Image) { m.Entry = n })
	}
	put(api.ErrArg, func(m *api.Image) { m.Entry = len(m.Words) })
	for i, x := range images {
		for _, input := range []int{0, 1, 9999, 10000, 10001, 20000} {
			for _, fuel := range []int{-1 << 62, -1 << 32, -1, 0, 1, 2, 1<<30 - 1, 1 << 30, 1<<30 + 1, 1 << 32, 1 << 62} {
				want := x.e
				if want == api.OK && input > 10000 {
					want = api.ErrLong
				} else if want == api.OK && (fuel < 0 || fuel > 1<<30) {
					want = api.ErrArg
				}
				o, e := emu.Run(x.m, strings.Repeat("x", input), fuel)
				if e != want || e != api.OK && o != (api.Outcome{}) || e == api.OK && fuel >= 2 && o.Stop != api.StopExit || e == api.OK && fuel == 0 && o != (api.Outcome{Stop: api.StopFuel}) {
					t.Fatalf("image %d, input of %d, fuel %d: %d, %+v, want %d", i, input, fuel, e, o, want)
				}
			}
		}
	}
}

// TestEntry begins at each word of an image.
func TestEntry(t *testing.T) {
	m := image(li(1, 1), li(2, 2), ins(api.MacADD, 1, 1, 2), exit(1))
	for entry, want := range []uint32{3, 2, 0, 0} {
		m.Entry = entry
		exits(t, "from the entry on", m, want, 4-entry)
	}
	words := slices.Repeat([]uint32{trap(9)}, 65536)
	words[65535] = exit(0)
	m = image(words...)
	m.Entry = 65535
	exits(t, "at the last word", m, 0, 1)
	m.Entry = 65534
	traps(t, "ahead of the last word", m, 9, 1)
	m.Words[65535] = li(0, 4)
	m.Entry = 65535
	traps(t, "behind the last word", m, api.TrapPlace, 2)
}

// TestFuel has each fuel up to more than is needed (P18.1).
func TestFuel(t *testing.T) {
	for _, m := range []api.Image{
		image(li(1, 7), exit(1)),
		image(exit(0)),
		image(li(0, 'a'), putc(0), putc(0), putc(0), ret()),
		image(li(1, 1), li(0, 5), putc(0), ins(api.MacSUB, 0, 0, 1), ins(api.MacBNE, 0, 2, -3), exit(1)),
		image(call(), 0),
		image(getc(0), putc(0), ins(api.MacBGES, 0, 5, -3), exit(0)),
		image(call(), 4, exit(3), 0, li(3, 5), ret()),
		image(trap(0)),
		image(0),
	} {
		input := "input\x80\xff"
		o := ran(t, m, input, 1<<30)
		if o.Stop == api.StopFuel {
			t.Fatalf("%08x does not end", m.Words)
		}
		for fuel := range o.Steps + 100 {
			x := ran(t, m, input, fuel)
			if fuel >= o.Steps && x != o || fuel < o.Steps && (x.Stop != api.StopFuel || x.Code != 0 || x.Steps != fuel || !strings.HasPrefix(o.Output, x.Output)) {
				t.Fatalf("%08x by %d: %+v, with enough %+v", m.Words, fuel, x, o)
			}
		}
	}
	for fuel := range 300 {
		is(t, "an endless run", ran(t, image(jmp(-1)), "", fuel), api.StopFuel, 0, fuel, "")
	}
}

// TestManySteps counts a register down from a great number.
func TestManySteps(t *testing.T) {
	const n = 3000000
	m := image(lit(1), n, ins(api.MacADDI, 1, 1, -1), ins(api.MacBNE, 1, 0, -2), exit(1))
	for _, fuel := range []int{2*n + 2, 1 << 30} {
		if o, e := emu.Run(m, "", fuel); e != api.OK || o != (api.Outcome{Stop: api.StopExit, Steps: 2*n + 2}) {
			t.Errorf("%d, %+v", e, o)
		}
	}
	if o, e := emu.Run(m, "", 2*n+1); e != api.OK || o != (api.Outcome{Stop: api.StopFuel, Steps: 2*n + 1}) {
		t.Errorf("one step too few: %d, %+v", e, o)
	}
}

// TestBytes has what goes in and out, byte by byte.
func TestBytes(t *testing.T) {
	echo := image(getc(0), ins(api.MacBEQ, 0, 1, 2), putc(0), jmp(-4), exit(0))
	echo.Words = append([]uint32{li(1, -1)}, echo.Words...)
	echo.Kinds = append(echo.Kinds, 1)
	var all []byte
	for i := range 256 {
		all = append(all, byte(i), byte(i), byte(255-i))
	}
	for _, input := range []string{"", "a", "\x00", "\xff", "\x80\x7f", string(all), strings.Repeat("ab\xfe", 3333)} {
		is(t, "an echo", ran(t, echo, input, 100000), api.StopExit, 1<<32-1, 4*len(input)+4, input)
	}
	for i := range 256 {
		b := string([]byte{byte(i)})
		is(t, "a byte", ran(t, image(getc(3), exit(3)), b, 9), api.StopExit, uint32(i), 2, "")
		for _, more := range []uint32{0, 256, 65536, 1<<32 - 256, 1 << 31} {
			o := ran(t, image(lit(3), uint32(i)+more, putc(3), exit(3)), "", 9)
			is(t, "a word's byte", o, api.StopExit, uint32(i)+more, 3, b)
		}
	}
	is(t, "behind the input's end", ran(t, image(getc(0), getc(1), getc(2), putc(2), ins(api.MacADD, 0, 1, 2), exit(0)), "ab", 9), api.StopExit, 'b'-1, 6, "\xff")
	o, e := emu.Run(image(append(slices.Repeat([]uint32{putc(0)}, 65534), jml(), 0)...), "", 2000000)
	if e != api.OK || o.Stop != api.StopFuel || len(o.Output) != 2000000-30 || strings.Trim(o.Output, "\x00") != "" {
		t.Errorf("a long output: %d, %d, %d bytes", e, o.Stop, len(o.Output))
	}
}
