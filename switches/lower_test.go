package switches_test

import (
	"fmt"
	"math/bits"
	"reflect"
	"slices"
	"testing"

	"switchback/api"
	"switchback/graph"
	"switchback/sample"
	"switchback/switches"
)

// short is how a failure tells of something: great graphs not whole.
func short(v any) string {
	return fmt.Sprintf("%.3000s", fmt.Sprintf("%+v", v))
}

// lowered lowers a module, and checks all that is promised of every one, but for its runs.
func lowered(t *testing.T, m api.Module) api.Module {
	t.Helper()
	ahead := graph.Copy(m)
	r, e := switches.Lower(m)
	if e != api.OK {
		t.Fatalf("%d: %s", e, short(m))
	}
	if !reflect.DeepEqual(m, ahead) {
		t.Fatal("the module is changed")
	}
	if s := sample.UnlikeHead(m, r); s != "" {
		t.Fatalf("%s\n%s\n%s", s, short(m), short(r))
	}
	if sample.Shared(ahead, r) || sample.Shared(m, r) {
		t.Fatalf("shared memory: %s", short(m))
	}
	for i, g := range m.Funcs {
		f := follower{g, r.Funcs[i]}
		if s := f.wrong(); s != "" {
			t.Fatalf("the function %d: %s\n%s\n%s", i, s, short(m), short(r))
		}
	}
	return r
}

// follower goes through what came in the place of a graph's switches. The blocks that there were keep their numbers; those that came stand behind them.
type follower struct {
	from api.Graph
	to   api.Graph
}

// wrong tells what the chapter rules out.
func (f *follower) wrong() string {
	came := map[int]int{}
	for b, old := range f.from.Blocks {
		own := f.to.Blocks[b]
		if old.End.Kind != api.EndSwitch {
			if !reflect.DeepEqual(own, old) {
				return fmt.Sprintf("the block %d is another one", b)
			}
			continue
		}
		if len(own.Code) < len(old.Code) || !slices.EqualFunc(own.Code[:len(old.Code)], old.Code, func(a, b api.Ins) bool { return reflect.DeepEqual(a, b) }) {
			return fmt.Sprintf("the block %d has other instructions", b)
		}
		own.Code = own.Code[len(old.Code):]
		if s := f.follow(own, old.End, bits.Len(uint(len(old.End.Cases)))+2, came); s != "" {
			return fmt.Sprintf("in the place of the switch of the block %d: %s", b, s)
		}
	}
	for b := len(f.from.Blocks); b < len(f.to.Blocks); b++ {
		if came[b] != 1 {
			return fmt.Sprintf("%d ways lead to the new block %d", came[b], b)
		}
	}
	return ""
}

// follow goes on from a block that came for a switch, with so many EndIfs that may still come.
func (f *follower) follow(own api.Block, old api.End, left int, came map[int]int) string {
	if len(own.Code) > 1 || len(own.Code) == 1 && own.Code[0].Op != api.InsConst {
		return "instructions"
	}
	switch own.End.Kind {
	case api.EndIf:
		if left == 0 {
			return "too many EndIfs"
		}
	case api.EndTable:
		if len(own.Code) > 0 || !isPiece(own.End, old) {
			return "a table"
		}
	case api.EndJump:
		if len(own.Code) > 0 || len(old.Cases) > 0 {
			return "a jump"
		}
	default:
		return "an end"
	}
	for _, to := range graph.Next(api.Graph{Blocks: []api.Block{own}}, 0) {
		if to < len(f.from.Blocks) {
			continue
		}
		if own.End.Kind != api.EndIf {
			return "what is behind a table"
		}
		came[to]++
		if s := f.follow(f.to.Blocks[to], old, left-1, came); s != "" {
			return s
		}
	}
	return ""
}

// isPiece tells whether a table is one of the pieces of a switch.
func isPiece(e, old api.End) bool {
	sorted := slices.Clone(old.Cases)
	slices.SortFunc(sorted, func(a, b api.Case) int { return int(a.N) - int(b.N) })
	for _, ends := range planAgain(sorted) {
		first, last := sorted[ends[0]], sorted[ends[1]]
		if first.N != e.N || ends[1] == ends[0] {
			continue
		}
		want := api.End{Kind: api.EndTable, A: old.A, N: first.N, To: old.To}
		for n := int(first.N); n <= int(last.N); n++ {
			want.Targets = append(want.Targets, goal(old, uint32(n)))
		}
		return reflect.DeepEqual(e, want)
	}
	return false
}

// goal is to where a switch goes by a value.
func goal(e api.End, value uint32) int {
	for _, c := range e.Cases {
		if c.N == value {
			return c.To
		}
	}
	return e.To
}

// within is how many steps a result may take for n steps of the module.
func within(m api.Module) func(n int) int {
	b := 0
	for _, g := range m.Funcs {
		for _, block := range g.Blocks {
			if block.End.Kind == api.EndSwitch {
				b = max(b, bits.Len(uint(len(block.End.Cases))))
			}
		}
	}
	return func(n int) int { return (2*b + 8) * n }
}

// means checks a lowered module's runs against those of the module.
func means(t *testing.T, m api.Module, fuel int, inputs ...string) api.Module {
	t.Helper()
	r := lowered(t, m)
	for _, input := range inputs {
		if s := sample.Unlike(m, r, input, fuel, within(m)); s != "" {
			t.Fatalf("%q: %s\n%s\n%s", input, s, short(m), short(r))
		}
	}
	return r
}

func back(a int) api.End { return api.End{Kind: api.EndReturn, A: a} }

func choose(other int, cases ...api.Case) api.End {
	return api.End{Kind: api.EndSwitch, A: 0, Cases: cases, To: other}
}

// one is a module of one function, of 2 temps, with blocks of its own.
func one(blocks ...api.Block) api.Module {
	return api.Module{Globals: []uint32{0}, Funcs: []api.Graph{{Temps: 2, Blocks: blocks}}}
}

// choosing is a module that switches by its global scalar: by none of the numbers it gives back 0, else the number's place.
func choosing(numbers ...uint32) api.Module {
	m := one(api.Block{Code: []api.Ins{{Op: api.InsLoad, D: 0}}, End: choose(len(numbers)+1, cases(numbers...)...)})
	g := &m.Funcs[0]
	for n := range numbers {
		g.Blocks = append(g.Blocks, api.Block{Code: []api.Ins{{Op: api.InsConst, D: 1, N: uint32(n + 1)}}, End: back(1)})
	}
	g.Blocks = append(g.Blocks, api.Block{End: back(-1)})
	return m
}

// chosen has a switch by some numbers lowered, and held against the module for values around them all.
func chosen(t *testing.T, numbers ...uint32) api.Module {
	t.Helper()
	m := choosing(numbers...)
	r := lowered(t, m)
	values := []uint32{0, 1, 5, 1 << 31, 1<<31 - 1, top, top - 1}
	for _, n := range numbers {
		values = append(values, n-1, n, n+1)
	}
	for _, v := range values {
		m.Globals[0], r.Globals[0] = v, v
		if s := sample.Unlike(m, r, "", 100, within(m)); s != "" {
			t.Fatalf("%d: %s\n%s\n%s", v, s, short(m), short(r))
		}
	}
	return r
}

// counts are how many EndIfs and EndTables a module's first function has.
func counts(m api.Module) [2]int {
	var n [2]int
	for _, b := range m.Funcs[0].Blocks {
		switch b.End.Kind {
		case api.EndIf:
			n[0]++
		case api.EndTable:
			n[1]++
		}
	}
	return n
}

// wide are so many numbers, each of which is a piece for itself.
func wide(n int) []uint32 {
	var l []uint32
	for i := range n {
		l = append(l, uint32(i)*10000000)
	}
	return l
}

// TestShapes has switches, and how many EndIfs and EndTables come in their places.
func TestShapes(t *testing.T) {
	for name, x := range map[string]struct {
		numbers []uint32
		want    [2]int
	}{
		"none":                      {nil, [2]int{0, 0}},
		"one":                       {[]uint32{7}, [2]int{1, 0}},
		"two":                       {[]uint32{7, 3}, [2]int{3, 0}},
		"three":                     {[]uint32{2, 0, 1}, [2]int{5, 0}},
		"four":                      {[]uint32{2, 0, 1, 3}, [2]int{0, 1}},
		"four with gaps":            {[]uint32{6, 4, 0, 2}, [2]int{0, 1}},
		"a table and one":           {[]uint32{1, 2, 3, 4, 100}, [2]int{2, 1}},
		"one and a table":           {[]uint32{101, 102, 103, 104, 0}, [2]int{2, 1}},
		"two tables":                {upTo(1000, 1003, upTo(9000, 9009)...), [2]int{1, 2}},
		"too wide":                  {[]uint32{10, 20, 30, 40}, [2]int{7, 0}},
		"both ends":                 {[]uint32{0, top}, [2]int{3, 0}},
		"around the words' end":     {[]uint32{top - 1, top, 0, 1}, [2]int{7, 0}},
		"a table at the words' end": {[]uint32{top - 3, top, top - 2, top - 1}, [2]int{0, 1}},
		"tables at both ends":       {upTo(0, 4, top-4, top-3, top-1, top), [2]int{1, 2}},
		"around the highest bit":    {[]uint32{1<<31 - 2, 1<<31 - 1, 1 << 31, 1<<31 + 1}, [2]int{0, 1}},
		"on both sides of it":       {[]uint32{1 << 30, 1<<31 - 9, 1 << 31, 3 << 30}, [2]int{7, 0}},
		"over 400":                  {upTo(1000, 1399), [2]int{0, 1}},
		"over 400 with gaps":        {upTo(0, 158, 399), [2]int{0, 1}},
		"over 401 with gaps":        {upTo(0, 158, 400), [2]int{2, 1}},
		"40 over a hundred":         {upTo(0, 38, 99), [2]int{0, 1}},
		"39 over a hundred":         {upTo(0, 37, 99), [2]int{2, 1}},
		"as many as may be":         {wide(api.MaxTable), [2]int{2*api.MaxTable - 1, 0}},
		"as many tables as may be":  {fours(api.MaxTable / 4), [2]int{api.MaxTable/4 - 1, api.MaxTable / 4}},
		"just more than a power":    {wide(257), [2]int{2*257 - 1, 0}},
		"just less than a power":    {wide(255), [2]int{2*255 - 1, 0}},
		"a power":                   {wide(256), [2]int{2*256 - 1, 0}},
		"a wide one and many lone":  {upTo(0, 199, wide(200)[1:]...), [2]int{199 + 199, 1}},
	} {
		t.Run(name, func(t *testing.T) {
			t.Parallel()
			if got := counts(chosen(t, x.numbers...)); got != x.want {
				t.Errorf("%d EndIfs and EndTables, want %d", got, x.want)
			}
		})
	}
}

// fours are so many heaps of four numbers.
func fours(n int) []uint32 {
	var l []uint32
	for i := range uint32(n) {
		l = append(l, upTo(i*1000, i*1000+3)...)
	}
	return l
}

// TestSameTargets has cases that go to one block, to that of the others, and back to the switch.
func TestSameTargets(t *testing.T) {
	read := []api.Ins{{Op: api.InsGetc, D: 0}, {Op: api.InsPutc, A: 0}}
	for _, other := range []int{0, 1, 2} {
		for _, wide := range []uint32{1, 2, 40} {
			for n := range 9 {
				var l []api.Case
				for i := range n {
					l = append(l, api.Case{N: uint32(n-i) * wide, To: i % 3})
				}
				m := one(api.Block{Code: read, End: choose(other, l...)}, api.Block{Code: read, End: back(0)}, api.Block{End: back(-1)})
				means(t, graph.Copy(m), 60, "", "\x00a", "\x01\x02\x03\x04b", "\x28\x50\x28\x78\x29c", "\x06\x04\x02\x01", "\xff")
			}
		}
	}
}

// TestEachSwitch has some switches in a function, one behind the other, one not reached, and tables and comparisons that the module had; and one in another function.
func TestEachSwitch(t *testing.T) {
	table := api.End{Kind: api.EndTable, A: 0, N: 9, Targets: []int{3}, To: 4}
	is := api.End{Kind: api.EndIf, Op: api.InsLtU, A: 0, B: 1, To: 4, Else: 0}
	read := []api.Ins{{Op: api.InsGetc, D: 0}, {Op: api.InsPutc, A: 0}}
	call := []api.Ins{{Op: api.InsCall, D: 1, F: 0, Args: []int{0, 1}, Arrs: []int{0}}, {Op: api.InsPutc, A: 1}}
	m := api.Module{
		Globals: []uint32{5, 6},
		Arrays:  []int{3},
		Funcs: []api.Graph{
			{Temps: 3, Params: []int{2, 0}, Arrays: []api.Array{{Kind: api.ArrayParam}, {Kind: api.ArrayLocal, N: 4}}, Blocks: []api.Block{{End: choose(1, cases(5, 97, 1)...)}, {End: back(0)}, {End: choose(1)}, {End: back(2)}}},
			{Temps: 2, Arrays: []api.Array{{Kind: api.ArrayGlobal}}, Blocks: []api.Block{
				{Code: read, End: choose(1, cases(97, 98, 99, 100)...)},
				{Code: call, End: choose(3, cases(97, 2)...)},
				{Code: call, End: table}, {Code: read, End: is}, {End: back(1)}, {End: choose(0, cases(1, 2, 3, 4, 5, 90)[1:]...)}}},
		},
		Main: 1,
	}
	for i := range m.Funcs[1].Blocks[5].End.Cases {
		m.Funcs[1].Blocks[5].End.Cases[i].To = i
	}
	r := means(t, graph.Copy(m), 200, "", "a", "aa", "b\x00", "c\x09", "a\x09", "d\x01b", "xa")
	for i, g := range r.Funcs {
		if !reflect.DeepEqual(g.Params, m.Funcs[i].Params) || !reflect.DeepEqual(g.Arrays, m.Funcs[i].Arrays) {
			t.Errorf("%+v", g)
		}
		for _, b := range g.Blocks {
			if b.End.Kind == api.EndSwitch {
				t.Error("a switch is left")
			}
		}
	}
	again := lowered(t, r)
	if !reflect.DeepEqual(again, r) {
		t.Error("a module without switches is changed")
	}
}

// TestTempsStay has a switch by each of the temps, all of which are needed behind it.
func TestTempsStay(t *testing.T) {
	for value := range 3 {
		var code, out []api.Ins
		for d := range 3 {
			code = append(code, api.Ins{Op: api.InsGetc, D: d})
			out = append(out, api.Ins{Op: api.InsPutc, A: d})
		}
		e := choose(1, api.Case{N: 'a', To: 2}, api.Case{N: 'c', To: 1}, api.Case{N: 'b', To: 2})
		e.A = value
		m := one(api.Block{Code: code, End: e}, api.Block{Code: out, End: back(0)}, api.Block{Code: out, End: back(1)})
		m.Funcs[0].Temps = 3
		means(t, graph.Copy(m), 100, "abc", "bca", "cab", "xyz", "axx", "xax", "xxa")
	}
}
