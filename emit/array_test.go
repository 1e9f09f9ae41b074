package emit_test

import (
	"slices"
	"testing"

	"switchback/api"
)

// The arrays that the function reaching knows: handed is one of its caller's own, or a global one.
var reachable = []struct {
	array api.Array
	words uint32
}{
	{handed(), 5}, {global(0), 3}, {local(2), 2}, {handed(), 4}, {local(4), 4}, {global(1), 4}, {handed(), 3}, {local(1), 1},
}

// elements are instructions that put out each element of an array, with two temps that these need.
func elements(array int, words uint32) []api.Ins {
	var code []api.Ins
	for k := range words {
		code = append(code, set(5, k), get(6, array, 5), putc(6))
	}
	return code
}

// filled are instructions that give each element of an array a word of its own.
func filled(array int, words uint32) []api.Ins {
	var code []api.Ins
	for k := range words {
		code = append(code, set(5, k), set(6, 'A'+7*uint32(array)+k), put(array, 5, 6))
	}
	return code
}

// reaching is a module in which a function, called with arrays, does something with one of those that it knows. Each array's elements are put out behind that: those that the function knows by itself, and by its caller those that it handed over.
func reaching(a, b, d int, i api.Ins) api.Module {
	var arrays []api.Array
	g := around(a, b, d)
	var code []api.Ins
	for k, x := range reachable {
		arrays = append(arrays, x.array)
		code = append(code, filled(k, x.words)...)
	}
	code = append(append(code, g.Blocks[0].Code[:many+2]...), i)
	code = append(code, shown()...)
	for k, x := range reachable {
		code = append(code, elements(k, x.words)...)
	}
	g.Blocks[0].Code = append(code, one(api.InsMove, 3, d))
	g.Blocks[0].End = back(3)
	main := fn(8, block(back(7), giving(call(7, 1), 1, 2, 0)))
	main.Blocks[0].Code = append(main.Blocks[0].Code, slices.Concat(elements(0, 3), elements(1, 5), elements(2, 4))...)
	m := of(knowing(main, global(0), local(5), global(1)), knowing(g, arrays...))
	m.Arrays = []int{3, 4}
	return m
}

// TestElements gets and puts elements of arrays of each kind, with each mixture of registers and slots, the first and the last element among them, and one behind.
func TestElements(t *testing.T) {
	t.Parallel()
	traps := 0
	for k, x := range reachable {
		for _, a := range mixed() {
			for _, b := range mixed() {
				for n, at := range []uint32{0, x.words / 2, x.words - 1, x.words, x.words + 1, 1 << 31, 1<<32 - 1} {
					for _, i := range []api.Ins{get(b, k, a), put(k, a, b)} {
						m := reaching(b, a, b, i)
						m.Globals = []uint32{0xabcd0000 + uint32(n), at}
						o := alike(t, m, "")
						if o.Stop == api.StopTrap {
							traps++
						}
						if a != b && (o.Stop == api.StopTrap && o.Code == api.TrapIndex) != (at >= x.words) {
							t.Fatalf("the element %d of %d words: %+v: %s", at, x.words, o, short(m))
						}
					}
				}
			}
		}
	}
	if traps == 0 {
		t.Error("no element was none")
	}
}

// TestArraysBesideOneAnother has as many global arrays as there may be, with as many words, and locals of all sorts: no element is one of another.
func TestArraysBesideOneAnother(t *testing.T) {
	m := api.Module{Globals: []uint32{1, 2, 3}}
	g := fn(many)
	for k := range 190 {
		m.Arrays = append(m.Arrays, 1+k%50)
		g.Arrays = append(g.Arrays, global((k*7)%190))
	}
	for k := range 40 {
		g.Arrays = append(g.Arrays, local(1+k%9))
	}
	words := func(a api.Array) uint32 {
		if a.Kind == api.ArrayGlobal {
			return uint32(m.Arrays[a.N])
		}
		return uint32(a.N)
	}
	var code []api.Ins
	for k, a := range g.Arrays {
		last := words(a) - 1
		code = append(code, set(10, 0), set(11, uint32(k)), put(k, 10, 11), set(3, last), set(4, uint32(2*k+1)), put(k, 3, 4))
	}
	for k, a := range g.Arrays {
		code = append(code, set(3, 0), get(12, k, 3), putc(12), set(13, words(a)-1), get(4, k, 13), putc(4))
	}
	for f := range m.Globals {
		code = append(code, load(5, f), putc(5))
	}
	g.Blocks = []api.Block{block(back(4), code...)}
	m.Funcs = []api.Graph{g}
	o := alike(t, m, "")
	if want := "\x08\x11\x09\x13\x0a\x15"; len(o.Output) != 2*230+3 || o.Output[16:22] != want {
		t.Errorf("%q", o.Output)
	}
}

// TestHandedOn has arrays handed from call to call, the same one by two ways among them.
func TestHandedOn(t *testing.T) {
	// Each call puts into one array, and hands both on, the other way round, till the count is 0.
	g := knowing(with(fn(12, block(either(api.InsEq, 0, 1, 1, 2)), block(back(10), set(5, 2), get(10, 0, 5), get(11, 1, 5), putc(10), putc(11)),
		block(back(9), set(11, 1), two(api.InsSub, 10, 0, 11), put(0, 10, 10), set(7, 'a'), two(api.InsAdd, 7, 7, 10), put(0, 10, 7), giving(call(9, 1, 10), 1, 0))), 0), handed(), handed())
	for _, arrays := range [][]int{{0, 1}, {1, 0}, {0, 0}, {1, 1}, {0, 2}, {2, 1}, {2, 2}} {
		main := fn(4, block(back(3), set(2, 6), giving(call(3, 1, 2), arrays...)))
		for a := range 3 {
			main.Blocks[0].Code = append(main.Blocks[0].Code, set(0, 3), get(1, a, 0), putc(1), set(0, 4), get(1, a, 0), putc(1))
		}
		m := of(knowing(main, global(0), local(9), global(1)), g)
		m.Arrays = []int{7, 8}
		alike(t, m, "")
		m.Arrays = []int{5, 8}
		alike(t, m, "")
	}
}

// TestLocalArraysOfEachCall has arrays of a function's own, in calls that are open at one time: none of them is another one's.
func TestLocalArraysOfEachCall(t *testing.T) {
	code := []api.Ins{set(3, 1), two(api.InsSub, 9, 0, 3), set(4, 2), get(5, 0, 4), putc(5), put(0, 4, 0), call(10, 1, 9), get(11, 0, 4), putc(11), two(api.InsAdd, 11, 11, 10)}
	g := knowing(with(fn(12, block(either(api.InsEq, 0, 1, 1, 2)), block(back(0)), block(back(11), code...)), 0), local(3))
	m := of(fn(10, block(back(9), set(9, 9), call(9, 1, 9))), g)
	ends(t, m, "", api.StopExit, 45, "\x00\x00\x00\x00\x00\x00\x00\x00\x00\x01\x02\x03\x04\x05\x06\x07\x08\x09")
}
