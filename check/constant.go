package check

import (
	"switchback/api"
	"switchback/word"
)

// constant works out a constant, all its operands with it: also those that count for nothing.
func (c *checker) constant(i int) (uint32, fault) {
	var words []uint32
	for _, k := range c.nodes[i].Kids {
		w, f := c.constant(k)
		if f.found() {
			return 0, f
		}
		words = append(words, w)
	}
	n := c.nodes[i]
	c.typed(i)
	switch n.Kind {
	case api.NodeNum:
		return uint32(n.Num), fault{}
	case api.NodeName:
		return c.constantName(i)
	case api.NodeUnary:
		return word.Unary(n.Op, words[0]), fault{}
	case api.NodeBinary:
		return c.constantBinary(n, words[0], words[1])
	case api.NodeAnd:
		return word.Bool(words[0] != 0 && words[1] != 0), fault{}
	case api.NodeOr:
		return word.Bool(words[0] != 0 || words[1] != 0), fault{}
	case api.NodeCond:
		if words[0] != 0 {
			return words[1], fault{}
		}
		return words[2], fault{}
	}
	return 0, fault{n.At, api.ErrCheckConst}
}

// constantName is the value of an entry: no other name is a constant.
func (c *checker) constantName(i int) (uint32, fault) {
	n := c.nodes[i]
	s, ok := c.find(n.Name)
	switch {
	case !ok:
		return 0, fault{n.At, api.ErrCheckNone}
	case s.kind != anEntry:
		return 0, fault{n.At, api.ErrCheckConst}
	}
	c.number(i, s)
	return uint32(s.num), fault{}
}

func (c *checker) constantBinary(n api.Node, left, right uint32) (uint32, fault) {
	if word.Divides(n.Op) && right == 0 {
		return 0, fault{n.At, api.ErrCheckConst}
	}
	typ := word.Reckons(n.Op, c.nodes[n.Kids[0]].Type, c.nodes[n.Kids[1]].Type)
	return word.Binary(n.Op, typ, left, right), fault{}
}
