package link_test

import (
	"fmt"
	"reflect"
	"slices"
	"testing"

	"switchback/api"
	"switchback/emu"
	"switchback/enc"
	"switchback/graph"
	"switchback/link"
	"switchback/run"
	"switchback/sample"
)

// short is how a failure tells of something: what is great, not whole.
func short(v any) string {
	return fmt.Sprintf("%.4000s", fmt.Sprintf("%+v", v))
}

// linked is the image of a module; it checks all that is promised of every image, but for what it does.
func linked(t *testing.T, m api.Module) api.Image {
	t.Helper()
	// A copy shares no memory within itself.
	m, ahead := graph.Copy(m), m
	image, e := link.Link(m)
	if e != api.OK {
		t.Fatalf("%d: %s", e, short(m))
	}
	if !reflect.DeepEqual(m, ahead) {
		t.Fatalf("the module is changed: %s", short(m))
	}
	if _, e := emu.Run(image, "", 0); e != api.OK || !slices.Equal(image.Data, m.Globals) {
		t.Fatalf("an image that may not be, or other Data: %d: %s\n%s", e, short(image), short(m))
	}
	if wrong := wrongKinds(image); wrong != "" {
		t.Fatalf("%s: %s\n%s", wrong, short(image), short(m))
	}
	other, _ := link.Link(m)
	if !reflect.DeepEqual(image, other) {
		t.Fatalf("another answer: %s\n%s", short(image), short(other))
	}
	if !sample.Apart(image.Words, image.Data, other.Words, other.Data, m.Globals) || !sample.Apart(image.Kinds, other.Kinds, m.Arrays) {
		t.Fatalf("shared memory: %s", short(image))
	}
	return image
}

// wrongKinds tells what of W3 does not hold of an image; it is empty, if all does.
func wrongKinds(m api.Image) string {
	for at := 0; at < len(m.Words); {
		c, e := enc.Decode(m.Words[at])
		if e != api.OK || m.Kinds[at] != api.WordIns {
			return fmt.Sprintf("the word %d is no instruction", at)
		}
		behind := enc.Follows(c.Op)
		at++
		if behind < 0 && at < len(m.Words) {
			behind = 1 + int(m.Words[at])
		}
		for range behind {
			if at >= len(m.Words) || m.Kinds[at] == api.WordIns {
				return fmt.Sprintf("the word %d is not behind an instruction", at)
			}
			at++
		}
	}
	return ""
}

// refused checks that a module is refused.
func refused(t *testing.T, m api.Module, want api.Errno) {
	t.Helper()
	image, e := link.Link(m)
	if e != want || len(image.Words)+len(image.Kinds)+len(image.Data)+image.Entry != 0 {
		t.Errorf("%d, want %d: %s", e, want, short(m))
	}
}

// means checks that a module's image means the same as the module.
func means(t *testing.T, m api.Module, fuel int, inputs ...string) api.Image {
	t.Helper()
	image := linked(t, m)
	for _, input := range inputs {
		if s := sample.UnlikeImage(m, image, input, fuel); s != "" {
			t.Fatalf("%q: %s\n%s", input, s, short(m))
		}
	}
	return image
}

// ends checks that a module means what its image means, and that a run of it ends so.
func ends(t *testing.T, m api.Module, input string, stop int, code uint32, output string) {
	t.Helper()
	means(t, m, 100000, input)
	if o, _ := run.Run(m, input, 100000); o.Stop != stop || o.Code != code || o.Output != output {
		t.Errorf("%+v, want %d, %d, %q: %s", o, stop, code, output, short(m))
	}
}

// Modules by short names.

// of is a module of some functions, the first of which is Main.
func of(funcs ...api.Graph) api.Module { return api.Module{Funcs: funcs} }

func fn(all int, blocks ...api.Block) api.Graph { return api.Graph{Temps: all, Blocks: blocks} }

func block(end api.End, code ...api.Ins) api.Block { return api.Block{Code: code, End: end} }

func to(b int) api.End { return api.End{Kind: api.EndJump, To: b} }

func back(a int) api.End { return api.End{Kind: api.EndReturn, A: a} }

func set(d int, n uint32) api.Ins { return api.Ins{Op: api.InsConst, D: d, N: n} }

func one(op, d, a int) api.Ins { return api.Ins{Op: op, D: d, A: a} }

func two(op, d, a, b int) api.Ins { return api.Ins{Op: op, D: d, A: a, B: b} }

func load(d, f int) api.Ins { return api.Ins{Op: api.InsLoad, D: d, F: f} }

func store(f, a int) api.Ins { return api.Ins{Op: api.InsStore, F: f, A: a} }

func get(d, array, a int) api.Ins { return api.Ins{Op: api.InsGet, D: d, F: array, A: a} }

func put(array, a, b int) api.Ins { return api.Ins{Op: api.InsPut, F: array, A: a, B: b} }

func getc(d int) api.Ins { return api.Ins{Op: api.InsGetc, D: d} }

func putc(a int) api.Ins { return api.Ins{Op: api.InsPutc, A: a} }

func exit(a int) api.Ins { return api.Ins{Op: api.InsExit, A: a} }

func call(d, f int, args ...int) api.Ins {
	return api.Ins{Op: api.InsCall, D: d, F: f, Args: args}
}

func TestExamples(t *testing.T) {
	m := of(fn(1, block(back(0), set(0, 7))))
	if o, e := emu.Run(linked(t, m), "", 1000); e != api.OK || o.Stop != api.StopExit || o.Code != 7 || o.Output != "" {
		t.Errorf("%+v, %d", o, e)
	}
	refused(t, api.Module{}, api.ErrArg)
}

// TestHowRunsEnd has modules whose runs end in each way.
func TestHowRunsEnd(t *testing.T) {
	forever := of(fn(0, block(to(0))))
	means(t, forever, 100000, "")
	if o, _ := emu.Run(linked(t, forever), "", 1000000); o.Stop != api.StopFuel {
		t.Errorf("%+v", o)
	}
	ends(t, of(fn(0, block(back(-1)))), "", api.StopExit, 0, "")
	ends(t, of(fn(1, block(back(0), set(0, 1<<32-1)))), "", api.StopExit, 1<<32-1, "")
	ends(t, of(fn(1, block(back(0), getc(0), putc(0), exit(0)))), "ab", api.StopExit, 'a', "a")
	ends(t, of(fn(2, block(back(0), putc(0), two(api.InsDivS, 0, 0, 1)))), "", api.StopTrap, api.TrapDiv, "\x00")
	ends(t, of(fn(0, block(back(-1), call(-1, 0)))), "", api.StopTrap, api.TrapDepth, "")
	m := of(fn(2, block(back(0), set(0, 3), put(0, 0, 0))))
	m.Arrays = []int{3}
	m.Funcs[0].Arrays = []api.Array{{Kind: api.ArrayGlobal}}
	ends(t, m, "", api.StopTrap, api.TrapIndex, "")
}

// TestMain has a function Main that is the first one, the last one, or one between, is called by others, and by itself.
func TestMain(t *testing.T) {
	for main := range 5 {
		m := api.Module{Main: main, Globals: []uint32{0}}
		for f := range 5 {
			m.Funcs = append(m.Funcs, fn(2, block(back(1), set(1, uint32('a'+f)), putc(1))))
		}
		ends(t, m, "", api.StopExit, uint32('a'+main), string(rune('a'+main)))
		code := []api.Ins{load(0, 0), set(1, 1), two(api.InsAdd, 0, 0, 1), store(0, 0)}
		for f := range 5 {
			code = append(code, call(-1, f))
		}
		m.Funcs[main] = fn(2, block(api.End{Kind: api.EndIf, Op: api.InsLtU, A: 0, B: 1, To: 1, Else: 2}, load(0, 0), set(1, 2)), block(back(0), code...), block(back(0), putc(0)))
		want := ""
		for range 2 {
			for f := range main {
				want += string(rune('a' + f))
			}
		}
		once := "abcde"[main+1:]
		ends(t, m, "", api.StopExit, 1, want+"\x02"+once+once)
	}
}

// depth is a module whose run opens calls down to a depth, Main with them.
func depth(n uint32) api.Module {
	m := of(fn(2, block(api.End{Kind: api.EndIf, Op: api.InsLtU, A: 0, B: 1, To: 1, Else: 2}, load(0, 0), set(1, 1), two(api.InsAdd, 0, 0, 1), store(0, 0), set(1, n)), block(back(0), call(0, 0)), block(back(0), putc(0))))
	m.Globals = []uint32{0}
	return m
}

// TestDepth has as many calls as may be open, and one more.
func TestDepth(t *testing.T) {
	ends(t, depth(1), "", api.StopExit, 1, "\x01")
	ends(t, depth(49), "", api.StopExit, 49, "1")
	ends(t, depth(50), "", api.StopExit, 50, "2")
	ends(t, depth(51), "", api.StopTrap, api.TrapDepth, "")
}

// TestGlobals has as many globals and words of arrays as there may be: each is a word of its own, and stays so while calls are open.
func TestGlobals(t *testing.T) {
	m := depth(50)
	m.Globals = []uint32{0}
	for len(m.Globals) < api.MaxGlobals {
		m.Globals = append(m.Globals, uint32(len(m.Globals))*0x1010101)
	}
	m.Arrays = slices.Repeat([]int{1000}, 10)
	low := &m.Funcs[0]
	low.Temps, low.Arrays = 20, []api.Array{{Kind: api.ArrayGlobal, N: 9}, {Kind: api.ArrayLocal, N: 1000}, {Kind: api.ArrayGlobal}}
	// Ahead of the calls the words at the ends of arrays are set, and the local array's; at the deepest call they are shown.
	low.Blocks[0].Code = append([]api.Ins{set(2, 999), set(3, 77), put(0, 2, 3), put(2, 19, 3), put(1, 2, 3), put(1, 19, 3)}, low.Blocks[0].Code...)
	low.Blocks[2].Code = append(low.Blocks[2].Code, get(4, 0, 2), putc(4), get(4, 2, 19), putc(4), get(4, 0, 19), putc(4), get(4, 2, 2), putc(4), load(5, 199), putc(5), load(6, 1), putc(6))
	ends(t, m, "", api.StopExit, 50, "2MM\x00\x00\xc7\x01")
}

// TestModulesThatMayNotBe has modules in which one thing is wrong, of each sort.
func TestModulesThatMayNotBe(t *testing.T) {
	good := of(fn(2, block(back(0), set(0, 1), load(1, 0), get(1, 0, 0), call(0, 1, 1))), fn(1, block(back(0))))
	good.Funcs[0].Arrays = []api.Array{{Kind: api.ArrayGlobal}}
	good.Funcs[1].Params = []int{0}
	good.Globals, good.Arrays = []uint32{1}, []int{4}
	linked(t, good)
	seen := map[api.Errno]int{}
	for name, spoil := range map[string]func(m *api.Module){
		"no functions":      func(m *api.Module) { m.Funcs = nil },
		"Main is none":      func(m *api.Module) { m.Main = 2 },
		"Main has Params":   func(m *api.Module) { m.Main = 1 },
		"too many globals":  func(m *api.Module) { m.Globals = make([]uint32, 201) },
		"no words":          func(m *api.Module) { m.Arrays[0] = 0 },
		"too many words":    func(m *api.Module) { m.Arrays = slices.Repeat([]int{1000}, 11) },
		"too many temps":    func(m *api.Module) { m.Funcs[1].Temps = 8001 },
		"no such array":     func(m *api.Module) { m.Arrays = nil },
		"no blocks":         func(m *api.Module) { m.Funcs[1].Blocks = nil },
		"no Op":             func(m *api.Module) { m.Funcs[1].Blocks[0].Code = []api.Ins{{}} },
		"no temp":           func(m *api.Module) { m.Funcs[1].Blocks[0].Code = []api.Ins{set(1, 0)} },
		"no global":         func(m *api.Module) { m.Globals = nil },
		"no argument":       func(m *api.Module) { m.Funcs[0].Blocks[0].Code[3].Args = nil },
		"no block":          func(m *api.Module) { m.Funcs[1].Blocks[0].End = to(1) },
		"no end":            func(m *api.Module) { m.Funcs[0].Blocks[0].End = api.End{} },
		"too much, as well": func(m *api.Module) { m.Main, m.Funcs[0].Blocks = -1, great(40000).Funcs[0].Blocks },
	} {
		m := graph.Copy(good)
		spoil(&m)
		_, _, e := graph.Check(m)
		if seen[e]++; e == api.OK {
			t.Errorf("%s: may be", name)
		}
		refused(t, m, api.ErrArg)
	}
	for e := api.ErrGraphFunc; e <= api.ErrGraphModule; e++ {
		if seen[e] == 0 {
			t.Errorf("nothing is wrong by %d", e)
		}
	}
}
