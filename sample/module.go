package sample

import (
	"switchback/api"
	"switchback/graph"
)

// Module is a module that may be; which one, the number says. Its blocks go on to one another in any way, reducible or not, and not all of them are reached; not all modules end.
func Module(number uint64) api.Module {
	b := builder{dice: dice{number}}
	b.statics()
	b.module.Funcs = make([]api.Graph, 1+b.below(4))
	b.module.Main = b.below(1 + b.below(len(b.module.Funcs)))
	for i := range b.module.Funcs {
		b.head(i)
	}
	for i := range b.module.Funcs {
		b.own, b.graph = i, &b.module.Funcs[i]
		b.blocks()
	}
	return b.module
}

// builder builds a module, and of it one graph after the other.
type builder struct {
	dice
	module api.Module
	own    int // the number of the graph
	graph  *api.Graph
	kept   int // how many of its last temps are kept for counting loops: 0 or 3
}

func (b *builder) statics() {
	for range b.below(4) {
		b.module.Globals = append(b.module.Globals, b.number())
	}
	for range b.below(3) {
		b.module.Arrays = append(b.module.Arrays, 1+b.below(5))
	}
}

// number is a word, mostly a small one, so that unlike places often have the same.
func (b *builder) number() uint32 {
	switch b.below(10) {
	case 0:
		edges := []uint32{1 << 31, 1<<31 - 1, 1<<32 - 1, 1<<32 - 2, 255, 256, 31, 32, 33}
		return edges[b.below(len(edges))]
	case 1:
		return uint32('a' + b.below(26))
	}
	return uint32(b.below(5))
}

func (b *builder) head(i int) {
	g := &b.module.Funcs[i]
	if !b.one(20) {
		g.Temps = 1 + b.below(10)
	}
	if i != b.module.Main {
		g.Params = b.some(g.Temps, b.below(4))
	}
	for range b.below(5) {
		switch b.below(3) {
		case 0:
			g.Arrays = append(g.Arrays, api.Array{Kind: api.ArrayLocal, N: 1 + b.below(5)})
		case 1:
			if i != b.module.Main {
				g.Arrays = append(g.Arrays, api.Array{Kind: api.ArrayParam})
			}
		default:
			if n := len(b.module.Arrays); n > 0 {
				g.Arrays = append(g.Arrays, api.Array{Kind: api.ArrayGlobal, N: b.below(n)})
			}
		}
	}
}

// some are at most so many unlike numbers below n.
func (b *builder) some(n, most int) []int {
	var found []int
	seen := make([]int, n)
	for range most {
		if n == 0 {
			break
		}
		x := b.below(n)
		if seen[x]++; seen[x] == 1 {
			found = append(found, x)
		}
	}
	return found
}

func (b *builder) blocks() {
	n := 1 + b.below(10)
	if b.one(8) {
		n += b.below(40)
	}
	b.graph.Blocks = make([]api.Block, n)
	b.kept = 0
	if b.graph.Temps > 4 && !b.one(3) {
		b.kept = 3
		b.graph.Blocks[0].Code = b.counting()
	}
	for i := range n {
		b.block(i)
	}
}

func (b *builder) block(i int) {
	own := &b.graph.Blocks[i]
	switch {
	case i > 0 && b.one(7):
		b.again(i, &b.graph.Blocks[b.below(i)])
		return
	case b.one(8):
		own.End = api.End{Kind: api.EndJump, To: b.to(i)}
		return
	}
	for range b.below(7) {
		b.instruction(&own.Code)
	}
	if b.kept > 0 && b.one(3) {
		b.round(i)
		return
	}
	own.End = b.end(i)
}

// again makes a block out of one that there is: the same, or one that only ends like it.
func (b *builder) again(i int, old *api.Block) {
	own := &b.graph.Blocks[i]
	for range b.below(2) {
		b.instruction(&own.Code)
	}
	from := 0
	if b.one(3) {
		from = b.below(len(old.Code) + 1)
	}
	for _, one := range old.Code[from:] {
		one.Args = append([]int(nil), one.Args...)
		one.Arrs = append([]int(nil), one.Arrs...)
		own.Code = append(own.Code, one)
	}
	if !leadsBehind(old.End, i) && !b.one(4) {
		own.End = b.end(i)
		return
	}
	own.End = old.End
	own.End.Cases = append([]api.Case(nil), old.End.Cases...)
	own.End.Targets = append([]int(nil), old.End.Targets...)
}

// leadsBehind tells whether an end leads to blocks behind one alone, or to none.
func leadsBehind(e api.End, from int) bool {
	for _, to := range graph.Next(api.Graph{Blocks: []api.Block{{End: e}}}, 0) {
		if to <= from {
			return false
		}
	}
	return true
}

// to is a block to go to, mostly one that stands a little behind.
func (b *builder) to(from int) int {
	n := len(b.graph.Blocks)
	back := 4
	if b.kept > 0 {
		back = 40
	}
	if left := n - from - 1; left > 0 && !b.one(back) {
		return from + 1 + b.below(min(left, 3))
	}
	return b.below(n)
}

// temp is a temp to be set.
func (b *builder) temp() int {
	return b.below(b.graph.Temps - b.kept)
}

// any is a temp to be used.
func (b *builder) any() int {
	return b.below(b.graph.Temps)
}

// counting sets how far loops count, and by what.
func (b *builder) counting() []api.Ins {
	n := b.graph.Temps
	return []api.Ins{
		{Op: api.InsConst, D: n - 2, N: uint32(2 + b.below(20))},
		{Op: api.InsConst, D: n - 1, N: uint32(1 + b.below(2))},
	}
}

// round makes a block close a loop, as long as it has not counted far enough.
func (b *builder) round(i int) {
	n, own := b.graph.Temps, &b.graph.Blocks[i]
	own.Code = append(own.Code, api.Ins{Op: api.InsAdd, D: n - 3, A: n - 3, B: n - 1})
	own.End = api.End{Kind: api.EndIf, Op: api.InsLtS + b.below(4), A: n - 3, B: n - 2, To: b.below(i + 1), Else: b.to(i)}
}

func (b *builder) end(from int) api.End {
	if b.graph.Temps == 0 {
		if b.one(2) {
			return api.End{Kind: api.EndReturn, A: -1}
		}
		return api.End{Kind: api.EndJump, To: b.to(from)}
	}
	if from == len(b.graph.Blocks)-1 && !b.one(9) {
		return b.back()
	}
	switch b.below(8) {
	case 0, 1:
		return api.End{Kind: api.EndJump, To: b.to(from)}
	case 2:
		return b.choice(from)
	case 3:
		return b.table(from)
	case 4:
		return b.back()
	}
	return api.End{Kind: api.EndIf, Op: api.InsEq + b.below(6), A: b.any(), B: b.any(), To: b.to(from), Else: b.to(from)}
}

func (b *builder) back() api.End {
	return api.End{Kind: api.EndReturn, A: b.below(b.graph.Temps+1) - 1}
}

// choice is an EndSwitch: the values of its cases stand close to one another, or wide apart.
func (b *builder) choice(from int) api.End {
	e := api.End{Kind: api.EndSwitch, A: b.any(), To: b.to(from)}
	most := b.below(6)
	if b.one(4) {
		most = b.below(30)
	}
	base, wide := b.number(), uint32(1+b.below(3))
	if b.one(6) {
		wide = 1 + 1<<b.below(32)
	}
	for _, n := range b.some(most+most/4, most) {
		e.Cases = append(e.Cases, api.Case{N: base + uint32(n)*wide, To: b.to(from)})
	}
	return e
}

func (b *builder) table(from int) api.End {
	e := api.End{Kind: api.EndTable, A: b.any(), N: b.number(), To: b.to(from)}
	for range 1 + b.below(6) {
		e.Targets = append(e.Targets, b.to(from))
	}
	return e
}
