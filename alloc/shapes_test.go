package alloc_test

import (
	"reflect"
	"slices"
	"testing"

	"switchback/alloc"
	"switchback/api"
	"switchback/graph"
)

// fuels are all small ones, and a great one.
func fuels() []int {
	l := []int{10000}
	for n := range 40 {
		l = append(l, n)
	}
	return l
}

// oneBehindTheOther sets and puts out so many temps.
func oneBehindTheOther(n int) api.Block {
	b := block(back(-1))
	for temp := range n {
		b.Code = append(b.Code, set(temp, 'a'+temp), putc(temp))
	}
	return b
}

// allAtOnce sets so many temps, and puts them out then.
func allAtOnce(n int) api.Block {
	b := block(back(-1))
	for temp := range n {
		b.Code = append(b.Code, getc(temp))
	}
	for temp := range n {
		b.Code = append(b.Code, putc(temp))
	}
	return b
}

// TestShapes has functions, and how many locations each has: as few as may be, though A3 has room for more of some of them.
func TestShapes(t *testing.T) {
	idle := block(back(-1))
	for name, x := range map[string]struct {
		g    api.Graph
		want int
	}{
		"example 1":                          {of(10, oneBehindTheOther(10)), 1},
		"example 2":                          {of(5, block(back(4), getc(0), getc(1), getc(2), add(3, 0, 1), add(4, 3, 2))), 3},
		"example 3":                          {with(of(9, idle), 5, 3), 2},
		"example 3, none seen":               {of(9, idle), 0},
		"no temps":                           {of(0, block(to(1)), idle), 0},
		"a parameter":                        {with(of(1, block(back(0))), 0), 1},
		"a parameter that is set ahead":      {with(of(3, block(back(1), getc(2), set(1, 7), putc(2))), 1), 2},
		"parameters that are set ahead":      {with(of(3, block(back(1), set(0, 5), set(1, 7), putc(0))), 1, 0), 2},
		"as many parameters as may be":       {with(of(99, idle), 90, 10, 80, 20, 70, 30, 60, 40), 8},
		"a parameter, and one not set":       {with(of(9, block(back(4))), 6), 2},
		"none of two is set":                 {of(9, block(back(4), putc(7))), 2},
		"one is not set at first":            {of(9, block(back(4), putc(4), set(2, 5), add(4, 4, 2))), 2},
		"set and used at once":               {of(9, block(back(7), getc(5), add(7, 5, 5))), 1},
		"set again":                          {of(9, block(back(5), getc(5), add(5, 5, 5))), 1},
		"set, not used":                      {of(9, block(back(-1), getc(3), getc(8))), 1},
		"set, not used, but something is":    {of(9, block(back(3), getc(3), getc(8))), 2},
		"not reached":                        {of(9, block(back(-1)), block(back(-1), add(0, 1, 2))), 1},
		"not reached, but set there":         {of(9, block(back(-1)), block(back(5), getc(5), getc(6), putc(6))), 2},
		"not reached, but leads here":        {of(9, block(back(-1)), block(back(5)), block(to(1), getc(6), putc(6))), 2},
		"only the end uses it":               {of(9, block(either(7, 8, 1, 1)), idle), 2},
		"all at once: 9":                     {of(9, allAtOnce(9)), 9},
		"all at once: 64":                    {of(64, allAtOnce(64)), 64},
		"all at once: 65":                    {of(65, allAtOnce(65)), 65},
		"one behind the other: 300":          {of(300, oneBehindTheOther(300)), 1},
		"one that meets all others":          {of(5, block(back(4), append([]api.Ins{getc(4)}, oneBehindTheOther(4).Code...)...)), 2},
		"a call that sets nothing":           {of(9, block(back(-1), getc(3), call(-1, 3, 3))), 1},
		"a call that sets":                   {of(9, block(back(8), getc(3), call(8, 3, 3))), 1},
		"a call behind which all are needed": {of(9, block(back(8), getc(3), call(8, 3, 3), putc(3))), 2},
		"to itself":                          {of(9, block(either(4, 6, 0, 1), add(4, 4, 5)), idle), 3},
		"to itself, not used":                {of(9, block(to(0), set(4, 1), set(5, 1))), 1},
		"a ring":                             {of(9, block(to(1), set(3, 0), set(5, 9)), block(either(3, 5, 2, 3)), block(to(1), set(7, 1), add(3, 3, 7)), block(back(3))), 3},
		"a switch":                           {of(9, block(choose(8, 2, 1, 2), getc(8), getc(7)), block(back(7)), block(back(-1), getc(6), putc(6))), 2},
		"a table":                            {of(9, block(table(8, 2, 1, 2), getc(8), getc(7)), block(back(7)), block(back(-1), getc(6), putc(6))), 2},
		"on unlike ways":                     {of(9, block(either(0, 0, 1, 2), getc(0)), block(back(3), getc(3)), block(back(4), getc(4))), 1},
		"not reducible":                      {of(9, block(either(0, 1, 1, 2), getc(0), getc(1)), block(to(2), getc(2), putc(2)), block(either(0, 1, 1, 3), add(0, 0, 1)), block(back(1))), 3},
		"an exit does not stop":              {of(9, block(back(3), getc(3), getc(4), api.Ins{Op: api.InsExit, A: 4})), 2},
	} {
		t.Run(name, func(t *testing.T) {
			callee := with(of(4, block(back(3), add(3, 0, 2), putc(3))), 2, 0)
			main := of(9, block(back(8), getc(5), getc(4), api.Ins{Op: api.InsCall, D: 8, F: 2, Args: make([]int, len(x.g.Params))}, add(8, 8, 5)))
			for i := range x.g.Params {
				main.Blocks[0].Code[2].Args[i] = 4 + i%2
			}
			m := api.Module{Funcs: []api.Graph{main, callee, x.g}}
			for _, m.Main = range []int{0, 2}[:2-min(len(x.g.Params), 1)] {
				r := means(t, m, fuels(), "", "ab", "\x00\x01\x00", "\x01\x00\x02")
				if n := r.Funcs[2].Temps; n != x.want {
					t.Errorf("%d locations, want %d: %+v", n, x.want, r.Funcs[2])
				}
			}
		})
	}
}

// TestParametersHaveTheirArguments has a function that tells its arguments apart, and another temp that is 0.
func TestParametersHaveTheirArguments(t *testing.T) {
	callee := with(of(50, block(back(30), putc(20), putc(10), putc(40), putc(30), set(3, 'z'), putc(3))), 40, 10, 30)
	main := of(6, block(back(0), set(1, 'a'), set(3, 'b'), set(5, 'c'), call(0, 1, 3, 5)))
	r := means(t, api.Module{Funcs: []api.Graph{main, callee}}, fuels(), "")
	if r.Funcs[0].Temps != 3 || r.Funcs[1].Temps != 4 {
		t.Errorf("%+v", r)
	}
}

// TestWhatIsNoTemp has numbers that stand beside temps, and stay.
func TestWhatIsNoTemp(t *testing.T) {
	array := []api.Array{{Kind: api.ArrayLocal, N: 3}, {Kind: api.ArrayGlobal, N: 1}, {Kind: api.ArrayParam}}
	code := []api.Ins{
		{Op: api.InsLoad, D: 7, F: 2},
		{Op: api.InsGet, D: 6, F: 1, A: 7},
		{Op: api.InsPut, F: 2, A: 7, B: 6},
		{Op: api.InsStore, F: 1, A: 6},
		{Op: api.InsConst, D: 5, N: 7},
		{Op: api.InsCall, D: -1, F: 1, Args: []int{5}, Arrs: []int{2, 1}},
		{Op: api.InsCall, D: 4, F: 1, Args: []int{4}, Arrs: []int{0, 0}},
	}
	m := api.Module{
		Globals: []uint32{5, 6, 7},
		Arrays:  []int{4, 8},
		Main:    2,
		Funcs: []api.Graph{
			{Temps: 9, Arrays: array, Blocks: []api.Block{{Code: code, End: api.End{Kind: api.EndTable, A: 4, N: 6, Targets: []int{1, 2, 1}, To: 1}}, block(back(4)), block(back(-1), set(3, 1))}},
			{Temps: 9, Params: []int{8}, Arrays: []api.Array{{Kind: api.ArrayParam}, {Kind: api.ArrayParam}}, Blocks: []api.Block{block(choose(8, 1, 2, 2)), block(back(8)), block(back(7), getc(7))}},
			{Temps: 9, Arrays: slices.Clone(array[:2]), Blocks: []api.Block{block(back(2), api.Ins{Op: api.InsCall, D: 2, F: 0, Arrs: []int{0}})}},
		},
	}
	r := means(t, m, fuels(), "", "abc")
	for i, g := range r.Funcs {
		if !reflect.DeepEqual(g.Arrays, m.Funcs[i].Arrays) || g.Temps != []int{3, 1, 1}[i] {
			t.Errorf("%+v", g)
		}
	}
	// So far a run ends with a trap, since there is no element 7.
	m.Funcs[0].Blocks[0].Code[2].A = 5
	means(t, m, fuels(), "", "abc")
}

// TestDepth has a function that calls itself till there are too many calls.
func TestDepth(t *testing.T) {
	g := of(9, block(back(5), getc(3), call(5), add(5, 5, 3)))
	means(t, api.Module{Funcs: []api.Graph{of(9, block(back(7), call(7))), g}}, append(fuels(), 98, 99, 100, 101, 102), "", "abc")
}

// TestTwice has answers that are the same, and share no memory.
func TestTwice(t *testing.T) {
	m := api.Module{Funcs: []api.Graph{of(5, block(back(4), getc(0), getc(1), getc(2), add(3, 0, 1), add(4, 3, 2)))}}
	r := allocated(t, m)
	copied := graph.Copy(r)
	other := allocated(t, m)
	other.Funcs[0].Blocks[0].Code[0].D = 9
	if !reflect.DeepEqual(r, copied) || !reflect.DeepEqual(allocated(t, m), r) {
		t.Errorf("%+v", r)
	}
}

func TestWhatMayNotBe(t *testing.T) {
	one := func(g api.Graph) api.Module { return api.Module{Funcs: []api.Graph{g}} }
	idle := of(2, block(back(0)))
	two := func(g api.Graph) api.Module { return api.Module{Funcs: []api.Graph{idle, g}} }
	for name, m := range map[string]api.Module{
		"nothing":                    {},
		"no such Main":               {Funcs: []api.Graph{idle}, Main: 1},
		"no blocks":                  one(api.Graph{}),
		"no blocks behind":           two(api.Graph{}),
		"too many blocks":            one(of(1, slices.Repeat([]api.Block{block(back(0))}, api.MaxBlocks+1)...)),
		"too many instructions":      one(of(1, block(back(0), slices.Repeat([]api.Ins{putc(0)}, api.MaxIns+1)...))),
		"too many temps":             one(of(api.MaxTemps+1, block(back(0)))),
		"Temps below 0":              one(of(-1, block(back(-1)))),
		"no such temp":               one(of(2, block(back(2)))),
		"no temps":                   one(of(0, block(back(0)))),
		"no such D":                  one(of(2, block(back(0), set(2, 0)))),
		"no such argument":           two(with(of(2, block(back(0), call(0, 2))), 0)),
		"Params of Main":             one(with(idle, 0)),
		"Params that are the same":   two(with(idle, 1, 1)),
		"a parameter that is none":   two(with(idle, 2)),
		"no end":                     one(of(2, api.Block{})),
		"no such block":              one(of(2, block(to(1)))),
		"no such block, not reached": one(of(2, block(back(0)), block(to(2)))),
		"no Op":                      one(of(2, block(back(0), api.Ins{}))),
		"no such Op":                 one(of(2, block(back(0), api.Ins{Op: api.InsExit + 1}))),
		"a field too many":           one(of(2, block(back(0), api.Ins{Op: api.InsPutc, D: 1}))),
		"an end with too much":       one(of(2, block(api.End{Kind: api.EndJump, A: 1}))),
		"no such function":           one(of(2, block(back(0), call(0)))),
		"no such array":              one(of(2, block(back(0), api.Ins{Op: api.InsGet}))),
		"no such global":             one(of(2, block(back(0), api.Ins{Op: api.InsLoad}))),
		"a case twice":               one(of(2, block(api.End{Kind: api.EndSwitch, Cases: make([]api.Case, 2)}))),
		"a table of nothing":         one(of(2, block(api.End{Kind: api.EndTable}))),
	} {
		if _, _, e := graph.Check(m); e == api.OK {
			t.Errorf("%s: may be", name)
		}
		if r, e := alloc.Alloc(m); e != api.ErrArg || !reflect.DeepEqual(r, api.Module{}) {
			t.Errorf("%s: %d, %s", name, e, short(r))
		}
	}
}
