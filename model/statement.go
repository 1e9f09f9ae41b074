package model

import (
	"switchback/api"
	"switchback/word"
)

// do does statements, from one on, till the call is over.
func (c *call) do(next int) error {
	for next != none {
		var err error
		if next, err = c.statement(next); err != nil {
			return err
		}
	}
	return nil
}

// statement does the beginning of a statement, and tells which one is next.
func (c *call) statement(i int) (int, error) {
	if err := c.step(); err != nil {
		return none, err
	}
	n := &c.program.Nodes[i]
	switch n.Kind {
	case api.NodeBlock:
		if len(n.Kids) > 0 {
			return n.Kids[0], nil
		}
	case api.NodeExpr:
		if _, err := c.evaluate(n.Kids[0]); err != nil {
			return none, err
		}
	case api.NodeDecl:
		if err := c.declare(n); err != nil {
			return none, err
		}
	case api.NodeIf:
		return c.branch(i)
	case api.NodeWhile, api.NodeFor, api.NodeDo:
		return c.begin(i)
	case api.NodeSwitch:
		return c.choose(i)
	case api.NodeLabel, api.NodeDefault:
		return n.Kids[0], nil
	case api.NodeCase:
		return n.Kids[1], nil
	case api.NodeGoto:
		return c.targets[n.Own], nil
	case api.NodeBreak:
		return c.behind(c.ways.left[i])
	case api.NodeContinue:
		return c.goOn(c.ways.loop[i])
	case api.NodeReturn:
		return none, c.giveBack(n)
	}
	return c.behind(i)
}

// behind tells which statement is next where one is over: that hangs only on what stands around it.
func (c *call) behind(i int) (int, error) {
	for i != c.fn.Body {
		k := c.ways.nth[i]
		i = c.ways.around[i]
		n := &c.program.Nodes[i]
		switch n.Kind {
		case api.NodeBlock:
			if k+1 < len(n.Kids) {
				return n.Kids[k+1], nil
			}
		case api.NodeWhile, api.NodeDo, api.NodeFor:
			if next, err := c.again(n); next != none || err != nil {
				return next, err
			}
		}
	}
	return none, nil
}

// goOn goes on with a loop as behind its statement.
func (c *call) goOn(loop int) (int, error) {
	next, err := c.again(&c.program.Nodes[loop])
	if next != none || err != nil {
		return next, err
	}
	return c.behind(loop)
}

// again tells with which statement a loop goes on whose statement is over: with none, if it is over itself.
func (c *call) again(n *api.Node) (int, error) {
	switch n.Kind {
	case api.NodeWhile:
		return c.decide(n.Kids[0], n.Kids[1])
	case api.NodeDo:
		return c.decide(n.Kids[1], n.Kids[0])
	}
	if err := c.piece(n.Kids[2]); err != nil {
		return none, err
	}
	return c.decide(n.Kids[1], n.Kids[3])
}

// decide tells whether a loop's statement is next: a missing piece of a for is true.
func (c *call) decide(decider, statement int) (int, error) {
	if c.program.Nodes[decider].Kind == api.NodeEmpty {
		return statement, nil
	}
	w, err := c.evaluate(decider)
	if w == 0 || err != nil {
		return none, err
	}
	return statement, nil
}

// begin begins a loop.
func (c *call) begin(i int) (int, error) {
	n := &c.program.Nodes[i]
	next, err := none, error(nil)
	switch n.Kind {
	case api.NodeWhile:
		next, err = c.decide(n.Kids[0], n.Kids[1])
	case api.NodeDo:
		next = n.Kids[0]
	case api.NodeFor:
		if err = c.piece(n.Kids[0]); err == nil {
			next, err = c.decide(n.Kids[1], n.Kids[3])
		}
	}
	if next != none || err != nil {
		return next, err
	}
	return c.behind(i)
}

// piece does the first or the third piece of a for.
func (c *call) piece(i int) error {
	n := &c.program.Nodes[i]
	switch n.Kind {
	case api.NodeEmpty:
		return nil
	case api.NodeDecl:
		if err := c.step(); err != nil {
			return err
		}
		return c.declare(n)
	}
	_, err := c.evaluate(i)
	return err
}

// declare stores what the variables of a declaration begin with.
func (c *call) declare(n *api.Node) error {
	for _, kid := range n.Kids {
		v := &c.program.Nodes[kid]
		if v.Op == 1 || len(v.Kids) == 0 {
			continue
		}
		w, err := c.evaluate(v.Kids[0])
		if err != nil {
			return err
		}
		c.own.words[v.Num] = word.Narrow(v.Type, w)
	}
	return nil
}

func (c *call) branch(i int) (int, error) {
	n := &c.program.Nodes[i]
	w, err := c.evaluate(n.Kids[0])
	switch {
	case err != nil:
		return none, err
	case w != 0:
		return n.Kids[1], nil
	case len(n.Kids) > 2:
		return n.Kids[2], nil
	}
	return c.behind(i)
}

// choose goes to the case of a switch that has the value, or else to its default.
func (c *call) choose(i int) (int, error) {
	n := &c.program.Nodes[i]
	w, err := c.evaluate(n.Kids[0])
	if err != nil {
		return none, err
	}
	s := &c.fn.Switches[n.Num]
	for _, choice := range s.Cases {
		if choice.Num == w {
			return c.targets[choice.Target], nil
		}
	}
	if s.Default >= 0 {
		return c.targets[s.Default], nil
	}
	return c.behind(i)
}

func (c *call) giveBack(n *api.Node) error {
	if len(n.Kids) == 0 {
		return nil
	}
	w, err := c.evaluate(n.Kids[0])
	c.given = word.Narrow(c.fn.Type, w)
	return err
}
