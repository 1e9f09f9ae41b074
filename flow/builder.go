package flow

import "switchback/api"

const (
	// nowhere is where nothing is written: control never comes there.
	nowhere = -1
	// none is no temp.
	none = -1
)

// builder builds the graph of a function.
type builder struct {
	program api.Program
	fn      *api.Func
	// globals has the numbers of the file's variables in the module, own those of the function's in the graph: of scalars temps, of arrays arrays.
	globals []int
	own     []int
	// arrays has the numbers in the graph of those of the module's arrays that the function names.
	arrays map[int]int
	// targets has the blocks of the function's targets.
	targets map[int]int
	graph   api.Graph
	// scalars is how many temps are variables: the others are each set for one use.
	scalars int
	at      int // the block that is written, or nowhere
}

func newBuilder(p api.Program, fn *api.Func, globals []int) *builder {
	b := &builder{
		program: p,
		fn:      fn,
		globals: globals,
		arrays:  map[int]int{},
		targets: map[int]int{},
	}
	for i, v := range fn.Vars {
		b.own = append(b.own, b.variable(v))
		if v.Size == 0 && i < fn.Params {
			b.graph.Params = append(b.graph.Params, b.own[i])
		}
	}
	b.scalars = b.graph.Temps
	return b
}

// variable makes a temp or an array for a variable of the function.
func (b *builder) variable(v api.Var) int {
	switch {
	case v.Size == 0:
		return b.fresh()
	case v.Size < 0:
		return b.array(api.Array{Kind: api.ArrayParam})
	}
	return b.array(api.Array{Kind: api.ArrayLocal, N: v.Size})
}

func (b *builder) array(a api.Array) int {
	b.graph.Arrays = append(b.graph.Arrays, a)
	return len(b.graph.Arrays) - 1
}

// whole builds the whole graph.
func (b *builder) whole() {
	b.at = b.block()
	for i, v := range b.fn.Vars[:b.fn.Params] {
		if v.Size == 0 {
			b.narrow(v.Type, b.own[i])
		}
	}
	b.statement(b.fn.Body, around{})
	b.end(api.End{Kind: api.EndReturn, A: none})
}

// fresh is a temp that nothing else has.
func (b *builder) fresh() int {
	b.graph.Temps++
	return b.graph.Temps - 1
}

// block is a new block, to be written later.
func (b *builder) block() int {
	b.graph.Blocks = append(b.graph.Blocks, api.Block{})
	return len(b.graph.Blocks) - 1
}

// target is the block of a target.
func (b *builder) target(number int) int {
	block, there := b.targets[number]
	if !there {
		block = b.block()
		b.targets[number] = block
	}
	return block
}

// begin goes on with a new block: what was written ahead of it, if control comes there, goes on to it.
func (b *builder) begin(block int) {
	b.jump(block)
	b.at = block
}

func (b *builder) put(i api.Ins) {
	if b.at != nowhere {
		own := &b.graph.Blocks[b.at]
		own.Code = append(own.Code, i)
	}
}

// end ends the block that is written: what follows is nowhere, till a block begins.
func (b *builder) end(e api.End) {
	if b.at != nowhere {
		b.graph.Blocks[b.at].End = e
		b.at = nowhere
	}
}

func (b *builder) jump(block int) {
	b.end(api.End{Kind: api.EndJump, To: block})
}

func (b *builder) node(i int) *api.Node {
	return &b.program.Nodes[i]
}

// constant is a temp with a number.
func (b *builder) constant(n uint32) int {
	d := b.fresh()
	b.put(api.Ins{Op: api.InsConst, D: d, N: n})
	return d
}

func (b *builder) move(d, a int) {
	if d != a {
		b.put(api.Ins{Op: api.InsMove, D: d, A: a})
	}
}

// narrow makes of a temp what something of a type holds.
func (b *builder) narrow(typ, t int) {
	if typ == api.TypeChar {
		b.put(api.Ins{Op: api.InsLow, D: t, A: t})
	}
}
