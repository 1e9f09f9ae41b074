package check

import (
	"switchback/api"
	"switchback/word"
)

// isValue tells whether an expression that was looked at is a value.
func (c *checker) isValue(i int) bool {
	return c.nodes[i].Type != api.TypeVoid
}

// values finds the first one of some expressions that is no value.
func (c *checker) values(kids ...int) fault {
	for _, i := range kids {
		if !c.isValue(i) {
			return fault{c.nodes[i].At, api.ErrCheckKind}
		}
	}
	return fault{}
}

// valueType is the type of what a variable of a type holds, or a function of it gives.
func valueType(declared int) int {
	if declared == api.TypeChar {
		return api.TypeInt
	}
	return declared
}

// typed gives an expression that hangs on its kids alone its type.
func (c *checker) typed(i int) {
	n := &c.nodes[i]
	kid := func(k int) int { return c.nodes[n.Kids[k]].Type }
	switch n.Kind {
	case api.NodeUnary:
		n.Type = kid(0)
		if n.Op == api.OpNil {
			n.Type = api.TypeInt
		}
	case api.NodeBinary:
		n.Type = word.Reckons(n.Op, kid(0), kid(1))
		if word.Compares(n.Op) {
			n.Type = api.TypeInt
		}
	case api.NodeAnd, api.NodeOr:
		n.Type = api.TypeInt
	case api.NodeCond:
		n.Type = word.Join(kid(1), kid(2))
	case api.NodeAssign, api.NodePre, api.NodePost:
		n.Type = kid(0)
	case api.NodeComma:
		n.Type = kid(1)
	}
}

// expression looks at an expression; at other nodes there is nothing to look at.
func (c *checker) expression(i int) fault {
	n := c.nodes[i]
	f := fault{}
	switch n.Kind {
	case api.NodeName:
		return c.name(i, api.ErrCheckKind)
	case api.NodeIndex:
		return c.index(i)
	case api.NodeCall:
		return c.call(i)
	case api.NodeUnary, api.NodeBinary, api.NodeAnd, api.NodeOr, api.NodeCond:
		f = c.values(n.Kids...)
	case api.NodeAssign, api.NodePre, api.NodePost:
		f = c.stored(n)
	}
	c.typed(i)
	return f
}

// name looks at a name that has to be a scalar or, if it is not stored into, an entry; wrong is the error of others.
func (c *checker) name(i int, wrong api.Errno) fault {
	n := c.nodes[i]
	s, ok := c.find(n.Name)
	switch {
	case !ok:
		return fault{n.At, api.ErrCheckNone}
	case s.kind == aScalar:
		c.refer(i, s)
	case s.kind == anEntry && wrong == api.ErrCheckKind:
		c.number(i, s)
	default:
		return fault{n.At, wrong}
	}
	return fault{}
}

// refer makes a name or an element one of a variable.
func (c *checker) refer(i int, s symbol) {
	n := &c.nodes[i]
	n.Op, n.Num, n.Type = s.own, s.num, valueType(s.typ)
}

// number makes a name of an entry the number that it stands for.
func (c *checker) number(i int, s symbol) {
	n := &c.nodes[i]
	n.Kind, n.Num, n.Type, n.Name = api.NodeNum, s.num, api.TypeInt, ""
}

func (c *checker) index(i int) fault {
	n := c.nodes[i]
	if f := c.values(n.Kids...); f.found() {
		return f
	}
	s, ok := c.find(n.Name)
	switch {
	case !ok:
		return fault{n.At, api.ErrCheckNone}
	case s.kind != anArray:
		return fault{n.At, api.ErrCheckKind}
	}
	c.refer(i, s)
	return fault{}
}

func (c *checker) call(i int) fault {
	n := &c.nodes[i]
	s, ok := c.find(n.Name)
	switch {
	case !ok:
		return fault{n.At, api.ErrCheckNone}
	case s.kind != aFunction:
		return fault{n.At, api.ErrCheckKind}
	}
	h := c.head(s.num)
	if len(h.params) != len(n.Kids) {
		return fault{n.At, api.ErrCheckCall}
	}
	for k, kid := range n.Kids {
		if f := c.argument(kid, h.params[k]); f.found() {
			return f
		}
	}
	n.Num, n.Type = s.num, valueType(h.typ)
	return fault{}
}

// argument looks at what is handed to a parameter; a name of an array becomes a node of its own kind.
func (c *checker) argument(i int, p param) fault {
	if !p.array {
		return c.values(i)
	}
	n := &c.nodes[i]
	s, _ := c.find(n.Name)
	if n.Kind != api.NodeName || s.kind != anArray || s.typ != p.typ {
		return fault{n.At, api.ErrCheckCall}
	}
	n.Kind, n.Op, n.Num = api.NodeArray, s.own, s.num
	return fault{}
}

// stored looks at what is stored, and where.
func (c *checker) stored(n api.Node) fault {
	left := c.nodes[n.Kids[0]]
	if left.Kind != api.NodeName && left.Kind != api.NodeIndex {
		return fault{left.At, api.ErrCheckLeft}
	}
	return c.values(n.Kids[1:]...)
}
