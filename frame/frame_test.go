package frame_test

import (
	"fmt"
	"reflect"
	"slices"
	"testing"

	"switchback/api"
	"switchback/frame"
	"switchback/graph"
	"switchback/sample"
)

// Graphs by short names.

func of(all int, blocks ...api.Block) api.Graph { return api.Graph{Temps: all, Blocks: blocks} }

func with(g api.Graph, params ...int) api.Graph {
	g.Params = params
	return g
}

func knowing(g api.Graph, arrays ...api.Array) api.Graph {
	g.Arrays = arrays
	return g
}

func global(n int) api.Array { return api.Array{Kind: api.ArrayGlobal, N: n} }

func local(words int) api.Array { return api.Array{Kind: api.ArrayLocal, N: words} }

func handed() api.Array { return api.Array{Kind: api.ArrayParam} }

func block(end api.End, code ...api.Ins) api.Block { return api.Block{Code: code, End: end} }

func to(b int) api.End { return api.End{Kind: api.EndJump, To: b} }

func back(a int) api.End { return api.End{Kind: api.EndReturn, A: a} }

func either(a, b, yes, no int) api.End {
	return api.End{Kind: api.EndIf, Op: api.InsEq, A: a, B: b, To: yes, Else: no}
}

func set(d int) api.Ins { return api.Ins{Op: api.InsConst, D: d} }

func use(a int) api.Ins { return api.Ins{Op: api.InsPutc, A: a} }

func add(d, a, b int) api.Ins { return api.Ins{Op: api.InsAdd, D: d, A: a, B: b} }

// empty is a graph of so many temps none of which is named.
func empty(all int) api.Graph { return of(all, block(back(-1))) }

// short is how a failure tells of something: great graphs not whole.
func short(v any) string {
	return fmt.Sprintf("%.3000s", fmt.Sprintf("%+v", v))
}

// copyOf is a graph in memory of its own.
func copyOf(g api.Graph) api.Graph {
	return graph.Copy(api.Module{Funcs: []api.Graph{g}}).Funcs[0]
}

// laid is the layout of a graph, and checks what is promised of every answer.
func laid(t *testing.T, g api.Graph) api.Layout {
	t.Helper()
	ahead := copyOf(g)
	l, e := frame.Lay(g)
	if e != api.OK {
		t.Fatalf("%d: %s", e, short(g))
	}
	if w, e := frame.Weight(g); e != api.OK || w != 4*l.Words {
		t.Fatalf("%+v, of %d bytes, %d: %s", l, w, e, short(g))
	}
	if most := l.Args + l.Arrays + g.Temps + 14; l.Words > most || l.Words != l.Args+len(l.Saved)+l.Slots+l.Arrays {
		t.Fatalf("%+v, of at most %d words: %s", l, most, short(g))
	}
	if !reflect.DeepEqual(g, ahead) {
		t.Fatalf("the graph is changed: %s", short(g))
	}
	again, _ := frame.Lay(g)
	if !same(l, again) || !sample.Apart(g.Params, l.Saved, again.Saved) {
		t.Fatalf("%+v, then %+v: %s", l, again, short(g))
	}
	return l
}

// same tells whether two layouts are.
func same(a, b api.Layout) bool {
	return a.Args == b.Args && slices.Equal(a.Saved, b.Saved) && a.Slots == b.Slots && a.Arrays == b.Arrays && a.Words == b.Words
}

// is checks what the layout of a graph is.
func is(t *testing.T, g api.Graph, args int, saved []int, slots, arrays, words int) {
	t.Helper()
	want := api.Layout{Args: args, Saved: saved, Slots: slots, Arrays: arrays, Words: words}
	if l := laid(t, g); !same(l, want) {
		t.Errorf("%+v, want %+v: %s", l, want, short(g))
	}
}

// refused checks that a graph may have no frame.
func refused(t *testing.T, name string, g api.Graph) {
	t.Helper()
	if l, e := frame.Lay(g); e != api.ErrArg || !same(l, api.Layout{}) {
		t.Errorf("%s: %+v, %d: %s", name, l, e, short(g))
	}
	if w, e := frame.Weight(g); e != api.ErrArg || w != 0 {
		t.Errorf("%s: %d bytes, %d: %s", name, w, e, short(g))
	}
}

// TestExamples has the chapter's.
func TestExamples(t *testing.T) {
	g := knowing(with(of(12, block(back(-1), set(1), set(11), use(4))), 2, 0), handed(), local(5))
	is(t, g, 4, []int{0, 1, 2, 4}, 3, 5, 16)
	if w, _ := frame.Weight(g); w != 64 {
		t.Errorf("%d bytes", w)
	}
	is(t, empty(0), 0, nil, 0, 0, 0)
}

// TestTempsAreRegistersOrSlots has as many temps as there are registers, one more, and as many as there may be.
func TestTempsAreRegistersOrSlots(t *testing.T) {
	for all, slots := range map[int]int{0: 0, 1: 0, 8: 0, 9: 0, 10: 1, 11: 2, 100: 91, api.MaxTemps: 7991} {
		is(t, empty(all), 0, nil, slots, 0, slots)
		if all > 0 {
			last := all - 1
			var saved []int
			if last < 9 {
				saved = []int{last}
			}
			words := len(saved) + slots
			is(t, of(all, block(back(-1), set(last))), 0, saved, slots, 0, words)
			is(t, of(all, block(back(last))), 0, saved, slots, 0, words)
			is(t, with(empty(all), last), 1, saved, slots, 0, words+1)
		}
	}
	refused(t, "Temps below 0", empty(-1))
	refused(t, "too many Temps", empty(api.MaxTemps+1))
}

// TestWhatIsSaved has registers that are kept for one thing each, and some that are not kept.
func TestWhatIsSaved(t *testing.T) {
	const all = 12
	for r := range api.Regs {
		own := []int{r}
		other := (r + 1) % all
		is(t, of(all, block(to(0), set(r))), 0, own, 3, 0, 4)
		is(t, of(all, block(back(-1)), block(back(-1), set(r))), 0, own, 3, 0, 4)
		is(t, of(all, block(back(-1), api.Ins{Op: api.InsCall, D: r})), 0, own, 3, 0, 4)
		is(t, of(all, block(back(-1), api.Ins{Op: api.InsCall, D: -1, Args: []int{r}})), 0, own, 3, 0, 4)
		is(t, of(all, block(back(-1), api.Ins{Op: api.InsGetc, D: r})), 0, own, 3, 0, 4)
		is(t, of(all, block(back(-1), use(r))), 0, own, 3, 0, 4)
		is(t, of(all, block(back(r))), 0, own, 3, 0, 4)
		is(t, of(all, block(to(1)), block(back(r))), 0, own, 3, 0, 4)
		is(t, with(empty(all), r), 1, own, 3, 0, 5)
		is(t, of(all, block(to(1), set(9)), block(either(r, 10, 0, 1))), 0, own, 3, 0, 4)
		// What only blocks use that the block 0 does not lead to is not needed there; nor is it set.
		is(t, of(all, block(back(-1)), block(back(r))), 0, nil, 3, 0, 3)
		is(t, of(all, block(back(-1)), block(back(r), set(r))), 0, own, 3, 0, 4)
		// Two of them.
		pair := []int{min(r, other), max(r, other)}
		if other > 8 {
			pair = own
		}
		is(t, of(all, block(back(other), set(r))), 0, pair, 3, 0, 3+len(pair))
	}
	stores := []api.Ins{{Op: api.InsStore, D: 3, A: 9}, {Op: api.InsPut, D: 4, A: 9, B: 9}, {Op: api.InsPutc, D: 5, A: 9}, {Op: api.InsExit, D: 6, A: 9}, {Op: api.InsCall, D: -1}}
	is(t, of(all, block(back(-1), stores...)), 0, nil, 3, 0, 3)
	var every []api.Ins
	for r := range all {
		every = append(every, set(all-1-r))
	}
	is(t, of(all, block(back(-1), every...)), 0, []int{0, 1, 2, 3, 4, 5, 6, 7, 8}, 3, 0, 12)
}

// TestRegisterOfArrays has the register 0 kept for local arrays alone.
func TestRegisterOfArrays(t *testing.T) {
	is(t, knowing(empty(0), local(1)), 0, []int{0}, 0, 1, 2)
	is(t, knowing(empty(20), local(7)), 0, []int{0}, 11, 7, 19)
	is(t, knowing(of(9, block(back(-1), set(8))), global(0), local(3), handed(), local(4)), 2, []int{0, 8}, 0, 7, 11)
	is(t, knowing(empty(0), global(5)), 0, nil, 0, 0, 0)
	is(t, knowing(empty(0), handed()), 2, nil, 0, 0, 2)
	is(t, knowing(with(of(1, block(back(0), set(0))), 0), local(1)), 1, []int{0}, 0, 1, 3)
}

// TestParams has as many parameters as there may be, and one more, one twice, and such as are no temps.
func TestParams(t *testing.T) {
	is(t, with(empty(9), 8, 0, 7, 1, 6, 2, 5, 3), 8, []int{0, 1, 2, 3, 5, 6, 7, 8}, 0, 0, 16)
	is(t, with(empty(20), 19, 9, 18, 10, 17, 11, 8, 3), 8, []int{3, 8}, 11, 0, 21)
	refused(t, "nine", with(empty(20), 0, 1, 2, 3, 4, 5, 6, 7, 8))
	refused(t, "many", with(empty(20), make([]int, 100000)...))
	for name, params := range map[string][]int{
		"the first one twice": {3, 3}, "twice, others between": {3, 4, 5, 3}, "the last one twice": {0, 1, 2, 7, 7},
		"Temps": {9}, "behind others": {0, 8, 9}, "-1": {-1}, "-1 behind others": {0, 1, -1}, "great": {1 << 40}, "small": {-1 << 40},
	} {
		refused(t, name, with(empty(9), params...))
	}
	refused(t, "no temps", with(empty(0), 0))
}

// TestArrays has as many arrays of each sort as there may be, and one more, and words at the ends of what may be.
func TestArrays(t *testing.T) {
	many := func(n int, a api.Array) []api.Array { return slices.Repeat([]api.Array{a}, n) }
	is(t, knowing(empty(0), many(500, global(3))...), 0, nil, 0, 0, 0)
	is(t, knowing(empty(0), many(500, local(2))...), 0, []int{0}, 0, 1000, 1001)
	is(t, knowing(empty(0), append(many(492, local(1)), many(8, handed())...)...), 16, []int{0}, 0, 492, 509)
	is(t, knowing(empty(0), local(1000)), 0, []int{0}, 0, 1000, 1001)
	is(t, knowing(empty(0), local(999), local(1)), 0, []int{0}, 0, 1000, 1001)
	is(t, knowing(empty(0), many(8, handed())...), 16, nil, 0, 0, 16)
	is(t, knowing(with(empty(9), 1), handed(), handed()), 5, []int{1}, 0, 0, 6)
	// Of other kinds than ArrayLocal N is not asked.
	is(t, knowing(empty(0), global(-1), global(1<<40), api.Array{Kind: api.ArrayParam, N: -7}, api.Array{Kind: api.ArrayParam, N: 2000}), 4, nil, 0, 0, 4)
	for name, arrays := range map[string][]api.Array{
		"501 global ones":         many(501, global(0)),
		"501 of several kinds":    append(many(400, global(0)), many(101, local(1))...),
		"nine parameters":         many(9, handed()),
		"nine, others between":    append(append(many(5, handed()), local(1), global(0)), many(4, handed())...),
		"kind 0":                  {{Kind: 0, N: 1}},
		"kind 4":                  {{Kind: 4, N: 1}},
		"kind -1":                 {{Kind: -1, N: 1}},
		"a kind behind others":    {local(1), global(0), handed(), {Kind: 9}},
		"local of none":           {local(0)},
		"local of -1":             {local(-1)},
		"local of 1001":           {local(1001)},
		"local of a great number": {local(1 << 62), local(1 << 62)},
		"together none":           {local(5), local(-5), local(1)},
		"together 1001":           {local(1000), local(1)},
		"together 1001, by one":   append(many(499, local(2)), local(3)),
	} {
		refused(t, name, knowing(empty(20), arrays...))
	}
}

// TestWhatDoesNotFit has graphs that do not fit (chapter 13), and such as fit though no module has them.
func TestWhatDoesNotFit(t *testing.T) {
	refused(t, "nothing", api.Graph{})
	refused(t, "no blocks", of(3))
	refused(t, "too many blocks", of(3, slices.Repeat([]api.Block{block(back(-1))}, api.MaxBlocks+1)...))
	refused(t, "a jump to no block", of(3, block(to(1))))
	refused(t, "a jump to no block that is not reached", of(3, block(back(-1)), block(to(-1))))
	refused(t, "a case to no block", of(3, block(api.End{Kind: api.EndSwitch, Cases: []api.Case{{To: 1}}})))
	refused(t, "a target that is no block", of(3, block(api.End{Kind: api.EndTable, Targets: []int{0, -1}})))
	refused(t, "no Op", of(3, block(back(-1), api.Ins{})))
	refused(t, "the Op 33", of(3, block(back(-1), api.Ins{Op: 33})))
	refused(t, "no Kind", of(3, block(api.End{})))
	refused(t, "the Kind 6", of(3, block(api.End{Kind: 6})))
	refused(t, "no temp is set", of(3, block(back(-1), set(3))))
	refused(t, "no temp is used", of(3, block(back(-1), add(0, 1, -1))))
	refused(t, "no temp is an argument", of(3, block(back(-1), api.Ins{Op: api.InsCall, D: -1, Args: []int{0, 3}})))
	refused(t, "no temp is given back", of(3, block(back(-2))))
	is(t, of(3, block(api.End{Kind: api.EndTable, A: 2}, api.Ins{Op: api.InsCall, D: 1, F: 99, Arrs: []int{-7}})), 0, []int{1, 2}, 0, 0, 2)
	is(t, of(3, slices.Repeat([]api.Block{block(back(-1))}, api.MaxBlocks)...), 0, nil, 0, 0, 0)
}

// TestTwoAtOnce has graphs in which two things are wrong.
func TestTwoAtOnce(t *testing.T) {
	refused(t, "blocks and Params", with(of(3), 4))
	refused(t, "blocks and Arrays", knowing(of(3), local(0)))
	refused(t, "Params and Arrays", knowing(with(empty(3), 3), local(1001)))
	refused(t, "Temps and Params", with(empty(-1), 0))
}
