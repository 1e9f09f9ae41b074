package live_test

import (
	"testing"

	"switchback/api"
	"switchback/graph"
	"switchback/live"
)

// sound is a graph that fits, with something of each sort in it.
func sound() api.Graph {
	return of(4,
		block(to(1), set(0), add(1, 2, 3), call(3, 0, 1, 2), call(-1)),
		block(either(0, 1, 2, 3), api.Ins{Op: api.InsPut, A: 0, B: 1}, use(3)),
		block(choose(2, 1, 3, 4), api.Ins{Op: api.InsStore, A: 1}, api.Ins{Op: api.InsGet, D: 2, A: 3}),
		block(table(3, 4, 0, 3), api.Ins{Op: api.InsGetc, D: 2}),
		block(back(2)),
		block(back(-1)),
	)
}

// TestWhatDoesNotFit has graphs each of which does not fit for one cause alone.
func TestWhatDoesNotFit(t *testing.T) {
	causes := map[string]func(g *api.Graph){
		"no blocks":         func(g *api.Graph) { g.Blocks = nil },
		"an empty list":     func(g *api.Graph) { g.Blocks = []api.Block{} },
		"too many blocks":   func(g *api.Graph) { g.Blocks = append(g.Blocks, many(api.MaxBlocks-5)...) },
		"Temps below 0":     func(g *api.Graph) { *g = of(-1, block(back(-1))) },
		"too many Temps":    func(g *api.Graph) { g.Temps = api.MaxTemps + 1 },
		"fewer Temps":       func(g *api.Graph) { g.Temps = 3 },
		"no Temps":          func(g *api.Graph) { *g = of(0, block(back(0))) },
		"no Temps but used": func(g *api.Graph) { *g = of(0, block(back(-1), use(0))) },
		"no Temps but set":  func(g *api.Graph) { *g = of(0, block(back(-1), set(0))) },
	}
	for name, op := range map[string]int{"Op 0": 0, "Op below 0": -1, "Op 33": api.InsExit + 1, "a great Op": 1 << 40} {
		causes[name] = func(g *api.Graph) { g.Blocks[4].Code = []api.Ins{{Op: op}} }
	}
	for name, kind := range map[string]int{"Kind 0": 0, "Kind below 0": -1, "Kind 6": api.EndReturn + 1, "a great Kind": 1 << 40} {
		causes[name] = func(g *api.Graph) { g.Blocks[4].End.Kind = kind }
	}
	for name, n := range map[string]int{"-1": -1, "-2": -2, "Temps": 4, "a great one": 1 << 40, "a small one": -1 << 40} {
		if n != -1 {
			causes["a call sets "+name] = func(g *api.Graph) { g.Blocks[0].Code[2].D = n }
			causes["a return of "+name] = func(g *api.Graph) { g.Blocks[4].End.A = n }
		}
		causes["D is "+name] = func(g *api.Graph) { g.Blocks[0].Code[1].D = n }
		causes["A is "+name] = func(g *api.Graph) { g.Blocks[0].Code[1].A = n }
		causes["B is "+name] = func(g *api.Graph) { g.Blocks[0].Code[1].B = n }
		causes["the first D is "+name] = func(g *api.Graph) { g.Blocks[0].Code[0].D = n }
		causes["A of a store is "+name] = func(g *api.Graph) { g.Blocks[2].Code[0].A = n }
		causes["A of a get is "+name] = func(g *api.Graph) { g.Blocks[2].Code[1].A = n }
		causes["D of a get is "+name] = func(g *api.Graph) { g.Blocks[2].Code[1].D = n }
		causes["A of a put is "+name] = func(g *api.Graph) { g.Blocks[1].Code[0].A = n }
		causes["B of a put is "+name] = func(g *api.Graph) { g.Blocks[1].Code[0].B = n }
		causes["D of a getc is "+name] = func(g *api.Graph) { g.Blocks[3].Code[0].D = n }
		causes["the first argument is "+name] = func(g *api.Graph) { g.Blocks[0].Code[2].Args[0] = n }
		causes["the last argument is "+name] = func(g *api.Graph) { g.Blocks[0].Code[2].Args[2] = n }
		causes["A of an if is "+name] = func(g *api.Graph) { g.Blocks[1].End.A = n }
		causes["B of an if is "+name] = func(g *api.Graph) { g.Blocks[1].End.B = n }
		causes["A of a switch is "+name] = func(g *api.Graph) { g.Blocks[2].End.A = n }
		causes["A of a table is "+name] = func(g *api.Graph) { g.Blocks[3].End.A = n }
	}
	for name, n := range map[string]int{"-1": -1, "none": 6, "a great one": 1 << 40} {
		causes["a jump to "+name] = func(g *api.Graph) { g.Blocks[0].End.To = n }
		causes["an if to "+name] = func(g *api.Graph) { g.Blocks[1].End.To = n }
		causes["an else to "+name] = func(g *api.Graph) { g.Blocks[1].End.Else = n }
		causes["a switch to "+name] = func(g *api.Graph) { g.Blocks[2].End.To = n }
		causes["a case to "+name] = func(g *api.Graph) { g.Blocks[2].End.Cases[1].To = n }
		causes["a table to "+name] = func(g *api.Graph) { g.Blocks[3].End.To = n }
		causes["a target of "+name] = func(g *api.Graph) { g.Blocks[3].End.Targets[0] = n }
		causes["an unreached jump to "+name] = func(g *api.Graph) { g.Blocks[5].End = to(n) }
	}
	needs(t, sound())
	for name, spoil := range causes {
		g := sound()
		spoil(&g)
		if l, e := live.Live(g); e != api.ErrArg || l != nil {
			t.Errorf("%s: %d, %d", name, e, l)
		}
	}
	if l, e := live.Live(api.Graph{}); e != api.ErrArg || l != nil {
		t.Errorf("nothing: %d, %d", e, l)
	}
}

// many are blocks that return.
func many(n int) []api.Block {
	l := make([]api.Block, n)
	for i := range l {
		l[i].End = back(-1)
	}
	return l
}

// TestWhatFitsThoughItMayNotBe has graphs of no module that may be, of which is told all the same: what is there in fields that an instruction or end does not have is not asked.
func TestWhatFitsThoughItMayNotBe(t *testing.T) {
	for name, change := range map[string]func(g *api.Graph){
		"Params that are none":      func(g *api.Graph) { g.Params = []int{9, 9, -1} },
		"many Params":               func(g *api.Graph) { g.Params = make([]int, 99) },
		"arrays of no kind":         func(g *api.Graph) { g.Arrays = make([]api.Array, 501) },
		"D of a store":              func(g *api.Graph) { g.Blocks[2].Code[0].D = 9 },
		"D of a put":                func(g *api.Graph) { g.Blocks[1].Code[0].D = -9 },
		"D of a putc":               func(g *api.Graph) { g.Blocks[1].Code[1].D = 1 << 40 },
		"A and B of a constant":     func(g *api.Graph) { g.Blocks[0].Code[0].A, g.Blocks[0].Code[0].B = 9, -9 },
		"A and B of a call":         func(g *api.Graph) { g.Blocks[0].Code[2].A, g.Blocks[0].Code[2].B = 9, -9 },
		"B of a get":                func(g *api.Graph) { g.Blocks[2].Code[1].B = 9 },
		"Args of what calls not":    func(g *api.Graph) { g.Blocks[0].Code[1].Args = []int{9, -9} },
		"Arrs of a call":            func(g *api.Graph) { g.Blocks[0].Code[2].Arrs = []int{9, -9} },
		"F":                         func(g *api.Graph) { g.Blocks[0].Code[2].F = -9 },
		"A and B of a jump":         func(g *api.Graph) { g.Blocks[0].End.A, g.Blocks[0].End.B = 9, -9 },
		"Else of a jump":            func(g *api.Graph) { g.Blocks[0].End.Else = 9 },
		"Op of an if":               func(g *api.Graph) { g.Blocks[1].End.Op = 99 },
		"B of a switch and a table": func(g *api.Graph) { g.Blocks[2].End.B, g.Blocks[3].End.B = 9, -9 },
		"targets of a switch":       func(g *api.Graph) { g.Blocks[2].End.Targets = []int{9, -9} },
		"cases of a table":          func(g *api.Graph) { g.Blocks[3].End.Cases = []api.Case{{To: 9}} },
		"B and To of a return":      func(g *api.Graph) { g.Blocks[4].End.B, g.Blocks[4].End.To = 9, -9 },
		"To of a return of nothing": func(g *api.Graph) { g.Blocks[5].End.To = 9 },
	} {
		g := sound()
		change(&g)
		if !same(whole(t, g), needs(t, sound())) {
			t.Errorf("%s: %d", name, needs(t, g))
		}
		if _, _, e := graph.Check(api.Module{Funcs: []api.Graph{g}}); e == api.OK {
			t.Errorf("%s: may be", name)
		}
	}
}

// TestMoreThanMayBe has a graph with more instructions, cases, targets and arguments than a module's may have.
func TestMoreThanMayBe(t *testing.T) {
	g := of(api.MaxTemps, many(3)...)
	for i := range api.MaxIns + 5 {
		g.Blocks[1].Code = append(g.Blocks[1].Code, add(1, i%api.MaxTemps, 0))
	}
	g.Blocks[0].End = choose(2, 0)
	args := make([]int, 600)
	for i := range args {
		args[i] = 1000 + i
		g.Blocks[0].End.Cases = append(g.Blocks[0].End.Cases, api.Case{To: i % 3})
	}
	g.Blocks[1].End = table(3, 0, make([]int, 600)...)
	g.Blocks[2].Code = []api.Ins{call(0, args...)}
	l := needs(t, g)
	if len(l[0]) != api.MaxTemps-1 || len(l[1]) != api.MaxTemps-1 || len(l[2]) != 600 || l[2][599] != 1599 {
		t.Errorf("%d, %d, %d are needed", len(l[0]), len(l[1]), len(l[2]))
	}
}
