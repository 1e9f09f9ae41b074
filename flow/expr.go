package flow

import (
	"switchback/api"
	"switchback/word"
)

// value evaluates an expression, and tells a temp with its word: a variable's own one, or one that stays as it is.
func (b *builder) value(x int) int {
	n := b.node(x)
	switch n.Kind {
	case api.NodeName:
		if n.Op == 1 {
			return b.own[n.Num]
		}
	case api.NodeComma:
		b.effect(n.Kids[0])
		return b.value(n.Kids[1])
	case api.NodeAssign:
		return b.assign(n)
	case api.NodePre:
		return b.count(n)
	case api.NodePost:
		return b.countBehind(n)
	}
	d := b.fresh()
	b.into(x, d)
	return d
}

// into evaluates an expression into a temp, which is set last of all: till then it may be used.
func (b *builder) into(x, d int) {
	n := b.node(x)
	switch n.Kind {
	case api.NodeNum:
		b.put(api.Ins{Op: api.InsConst, D: d, N: uint32(n.Num)})
	case api.NodeName, api.NodeIndex:
		b.loadInto(b.place(n), d)
	case api.NodeCall:
		b.call(n, d)
	case api.NodeUnary:
		b.alone(n.Op)(d, b.value(n.Kids[0]))
	case api.NodeBinary:
		left, right := b.both(n)
		b.works(n.Op, b.reckons(n))(d, left, right)
	case api.NodeAnd, api.NodeOr:
		b.decided(x, d)
	case api.NodeCond:
		b.conditional(n, d)
	default:
		b.move(d, b.value(x))
	}
}

// effect evaluates an expression whose word is not asked for.
func (b *builder) effect(x int) {
	n := b.node(x)
	switch n.Kind {
	case api.NodeComma:
		b.effect(n.Kids[0])
		b.effect(n.Kids[1])
	case api.NodePost:
		b.count(n)
	case api.NodeCall:
		b.call(n, none)
	default:
		b.value(x)
	}
}

// both evaluates a left and a right kid.
func (b *builder) both(n *api.Node) (int, int) {
	left := b.lasting(b.value(n.Kids[0]), n.Kids[1])
	return left, b.value(n.Kids[1])
}

// reckons is the type in which a node with two kids reckons.
func (b *builder) reckons(n *api.Node) int {
	return word.Reckons(n.Op, b.node(n.Kids[0]).Type, b.node(n.Kids[1]).Type)
}

// decided makes 1 or 0 of what an expression decides.
func (b *builder) decided(x, d int) {
	yes, no, behind := b.block(), b.block(), b.block()
	b.branch(x, yes, no)
	b.begin(yes)
	b.put(api.Ins{Op: api.InsConst, D: d, N: 1})
	b.jump(behind)
	b.begin(no)
	b.put(api.Ins{Op: api.InsConst, D: d, N: 0})
	b.begin(behind)
}

func (b *builder) conditional(n *api.Node, d int) {
	yes, no, behind := b.block(), b.block(), b.block()
	b.branch(n.Kids[0], yes, no)
	b.begin(yes)
	b.into(n.Kids[1], d)
	b.jump(behind)
	b.begin(no)
	b.into(n.Kids[2], d)
	b.begin(behind)
}

// branch goes on to one of two blocks: to yes, if an expression is true.
func (b *builder) branch(x, yes, no int) {
	n := b.node(x)
	switch {
	case n.Kind == api.NodeAnd:
		right := b.block()
		b.branch(n.Kids[0], right, no)
		b.begin(right)
		b.branch(n.Kids[1], yes, no)
	case n.Kind == api.NodeOr:
		right := b.block()
		b.branch(n.Kids[0], yes, right)
		b.begin(right)
		b.branch(n.Kids[1], yes, no)
	case n.Kind == api.NodeUnary && n.Op == api.OpNil:
		b.branch(n.Kids[0], no, yes)
	case n.Kind == api.NodeBinary && word.Compares(n.Op):
		left, right := b.both(n)
		b.compares(n.Op, b.reckons(n))(left, right, yes, no)
	default:
		t := b.value(x)
		b.compares(api.OpNe, api.TypeInt)(t, b.constant(0), yes, no)
	}
}

// call writes a NodeCall; d is a temp for its word, or none.
func (b *builder) call(n *api.Node, d int) {
	args, arrays := b.arguments(n)
	switch n.Num {
	case api.CallGetc:
		if d == none {
			d = b.fresh()
		}
		b.put(api.Ins{Op: api.InsGetc, D: d})
	case api.CallPutc:
		b.put(api.Ins{Op: api.InsPutc, A: args[0]})
		if d != none {
			b.put(api.Ins{Op: api.InsLow, D: d, A: args[0]})
		}
	case api.CallExit:
		b.put(api.Ins{Op: api.InsExit, A: args[0]})
	default:
		b.put(api.Ins{Op: api.InsCall, D: d, F: n.Num, Args: args, Arrs: arrays})
	}
}

// arguments are the temps and the arrays that a call hands over.
func (b *builder) arguments(n *api.Node) (args, arrays []int) {
	for k, kid := range n.Kids {
		x := b.node(kid)
		if x.Kind == api.NodeArray {
			arrays = append(arrays, b.arrayOf(x))
			continue
		}
		args = append(args, b.lasting(b.value(kid), n.Kids[k+1:]...))
	}
	return args, arrays
}

// lasting is a temp with the word of another one, whatever the expressions do that are evaluated next.
func (b *builder) lasting(t int, next ...int) int {
	if t >= b.scalars {
		return t
	}
	for _, x := range next {
		if b.sets(x, t) {
			return b.copied(t)
		}
	}
	return t
}

func (b *builder) copied(t int) int {
	d := b.fresh()
	b.move(d, t)
	return d
}

// sets tells whether an expression stores into a variable's temp.
func (b *builder) sets(x, t int) bool {
	n := b.node(x)
	switch n.Kind {
	case api.NodeAssign, api.NodePre, api.NodePost:
		left := b.node(n.Kids[0])
		if left.Kind == api.NodeName && left.Op == 1 && b.own[left.Num] == t {
			return true
		}
	}
	for _, kid := range n.Kids {
		if b.sets(kid, t) {
			return true
		}
	}
	return false
}
