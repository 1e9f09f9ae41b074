package model

import (
	"switchback/api"
	"switchback/word"
)

// evaluate gives an expression's word.
func (c *call) evaluate(i int) (uint32, error) {
	if err := c.step(); err != nil {
		return 0, err
	}
	n := &c.program.Nodes[i]
	switch n.Kind {
	case api.NodeNum:
		return uint32(n.Num), nil
	case api.NodeName:
		return c.memoryOf(n).words[n.Num], nil
	case api.NodeIndex:
		return c.element(n)
	case api.NodeUnary:
		w, err := c.evaluate(n.Kids[0])
		return word.Unary(n.Op, w), err
	case api.NodeBinary:
		return c.binary(n)
	case api.NodeAnd, api.NodeOr:
		return c.both(n)
	case api.NodeCond:
		return c.conditional(n)
	case api.NodeComma:
		if _, err := c.evaluate(n.Kids[0]); err != nil {
			return 0, err
		}
		return c.evaluate(n.Kids[1])
	case api.NodeAssign:
		return c.assign(n)
	case api.NodePre, api.NodePost:
		return c.count(n)
	}
	return c.call(n)
}

func (c *call) element(n *api.Node) (uint32, error) {
	index, err := c.evaluate(n.Kids[0])
	if err != nil {
		return 0, err
	}
	p, err := c.place(n, index)
	if err != nil {
		return 0, err
	}
	return *p.word, nil
}

func (c *call) binary(n *api.Node) (uint32, error) {
	left, err := c.evaluate(n.Kids[0])
	if err != nil {
		return 0, err
	}
	right, err := c.evaluate(n.Kids[1])
	if err != nil {
		return 0, err
	}
	return c.reckon(n, left, right)
}

// reckon does a node's operation, in the type that those of its kids say.
func (c *call) reckon(n *api.Node, left, right uint32) (uint32, error) {
	if word.Divides(n.Op) && right == 0 {
		return 0, trapped{api.TrapDiv}
	}
	nodes := c.program.Nodes
	typ := word.Reckons(n.Op, nodes[n.Kids[0]].Type, nodes[n.Kids[1]].Type)
	return word.Binary(n.Op, typ, left, right), nil
}

// both evaluates an `and` or an `or`: an `and` is decided by 0, an `or` by what is true.
func (c *call) both(n *api.Node) (uint32, error) {
	left, err := c.evaluate(n.Kids[0])
	if err != nil {
		return 0, err
	}
	if (left != 0) == (n.Kind == api.NodeOr) {
		return word.Bool(left != 0), nil
	}
	right, err := c.evaluate(n.Kids[1])
	return word.Bool(right != 0), err
}

func (c *call) conditional(n *api.Node) (uint32, error) {
	w, err := c.evaluate(n.Kids[0])
	switch {
	case err != nil:
		return 0, err
	case w != 0:
		return c.evaluate(n.Kids[1])
	}
	return c.evaluate(n.Kids[2])
}

// place is where a word is, and with which type it is declared.
type place struct {
	word *uint32
	typ  int
}

// store stores a word, and tells what is there then.
func (p place) store(w uint32) uint32 {
	*p.word = word.Narrow(p.typ, w)
	return *p.word
}

// indexOf evaluates what stands in the brackets of an element that is stored into; a scalar has none.
func (c *call) indexOf(left *api.Node) (uint32, error) {
	if left.Kind == api.NodeIndex {
		return c.evaluate(left.Kids[0])
	}
	return 0, nil
}

// place finds a scalar, or an element by its index.
func (c *call) place(n *api.Node, index uint32) (place, error) {
	m := c.memoryOf(n)
	typ := m.vars[n.Num].Type
	if n.Kind == api.NodeName {
		return place{&m.words[n.Num], typ}, nil
	}
	elements := m.arrays[n.Num]
	if uint64(index) >= uint64(len(elements)) {
		return place{}, trapped{api.TrapIndex}
	}
	return place{&elements[index], typ}, nil
}

func (c *call) assign(n *api.Node) (uint32, error) {
	left := &c.program.Nodes[n.Kids[0]]
	index, err := c.indexOf(left)
	if err != nil {
		return 0, err
	}
	if n.Op != 0 {
		return c.change(n, left, index)
	}
	right, err := c.evaluate(n.Kids[1])
	if err != nil {
		return 0, err
	}
	// An index that is none traps at the store: what the right kid does is done by then.
	p, err := c.place(left, index)
	if err != nil {
		return 0, err
	}
	return p.store(right), nil
}

// change assigns by an operation: the word that is there is read ahead of the right kid.
func (c *call) change(n, left *api.Node, index uint32) (uint32, error) {
	p, err := c.place(left, index)
	if err != nil {
		return 0, err
	}
	was := *p.word
	right, err := c.evaluate(n.Kids[1])
	if err != nil {
		return 0, err
	}
	w, err := c.reckon(n, was, right)
	if err != nil {
		return 0, err
	}
	return p.store(w), nil
}

// count makes a word one more or less.
func (c *call) count(n *api.Node) (uint32, error) {
	left := &c.program.Nodes[n.Kids[0]]
	index, err := c.indexOf(left)
	if err != nil {
		return 0, err
	}
	p, err := c.place(left, index)
	if err != nil {
		return 0, err
	}
	was := *p.word
	now := p.store(word.Binary(n.Op, api.TypeInt, was, 1))
	if n.Kind == api.NodePost {
		return was, nil
	}
	return now, nil
}
