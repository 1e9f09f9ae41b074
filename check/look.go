package check

import "switchback/api"

// The roles in which a kid stands with its parent: as its own row says, as a constant, as a name that is stored into, as a name that its call looks at.
const (
	asItself = iota
	asConstant
	asLeft
	asArray
)

// look looks at a node behind its kids: so nodes are looked at in their order.
func (c *checker) look(i int) fault {
	c.enter(i)
	for k, kid := range c.nodes[i].Kids {
		if f := c.lookAs(c.role(i, k), kid); f.found() {
			return f
		}
	}
	f := c.row(i)
	c.leave(i)
	return f
}

func (c *checker) lookAs(role, i int) fault {
	switch role {
	case asConstant:
		w, f := c.constant(i)
		c.known[i] = w
		return f
	case asLeft:
		return c.name(i, api.ErrCheckLeft)
	case asArray:
		return fault{}
	}
	return c.look(i)
}

// role tells how the kid with the number k stands with a node.
func (c *checker) role(i, k int) int {
	n := c.nodes[i]
	switch n.Kind {
	case api.NodeItem:
		return asConstant
	case api.NodeVar:
		if c.fn == nil || n.Op == 1 && k == 0 {
			return asConstant
		}
	case api.NodeCase:
		if k == 0 {
			return asConstant
		}
	case api.NodeAssign, api.NodePre, api.NodePost:
		if k == 0 && c.isName(n.Kids[0]) {
			return asLeft
		}
	case api.NodeCall:
		if c.isName(n.Kids[k]) && c.takesArray(n, k) {
			return asArray
		}
	}
	return asItself
}

func (c *checker) isName(i int) bool {
	return c.nodes[i].Kind == api.NodeName
}

// takesArray tells whether a call's argument with the number k goes to an array.
func (c *checker) takesArray(call api.Node, k int) bool {
	s, ok := c.find(call.Name)
	if !ok || s.kind != aFunction {
		return false
	}
	params := c.head(s.num).params
	return len(params) == len(call.Kids) && params[k].array
}

// enter begins what is there as long as a node's kids are looked at.
func (c *checker) enter(i int) {
	n := c.nodes[i]
	if c.opensScope(i) {
		c.openScope()
	}
	switch n.Kind {
	case api.NodeEnum:
		c.next = 0
	case api.NodeFunc:
		c.begin(n)
	case api.NodeWhile, api.NodeDo, api.NodeFor:
		c.fn.loops++
	case api.NodeSwitch:
		c.fn.open = append(c.fn.open, api.Switch{Default: -1})
	}
}

// leave ends what enter began.
func (c *checker) leave(i int) {
	switch c.nodes[i].Kind {
	case api.NodeWhile, api.NodeDo, api.NodeFor:
		c.fn.loops--
	case api.NodeSwitch:
		c.fn.open = c.fn.open[:len(c.fn.open)-1]
	}
	if c.opensScope(i) {
		c.closeScope()
	}
}

// opensScope tells whether a node has a scope; a function's own block shares that of its parameters.
func (c *checker) opensScope(i int) bool {
	switch c.nodes[i].Kind {
	case api.NodeFunc, api.NodeFor:
		return true
	case api.NodeBlock:
		return i != c.fn.Body
	}
	return false
}

// row looks at a node by its own row: its kids were looked at.
func (c *checker) row(i int) fault {
	switch c.nodes[i].Kind {
	case api.NodeItem:
		return c.entry(i)
	case api.NodeVar:
		return c.variable(i)
	case api.NodeParam:
		return c.parameter(i)
	case api.NodeFunc:
		return c.end()
	case api.NodeIf, api.NodeWhile, api.NodeDo, api.NodeFor:
		return c.decided(i)
	case api.NodeSwitch:
		return c.switchRow(i)
	case api.NodeBreak, api.NodeContinue:
		return c.leaves(i)
	case api.NodeReturn:
		return c.returned(i)
	case api.NodeGoto:
		c.fn.gotos = append(c.fn.gotos, i)
	case api.NodeLabel:
		return c.label(i)
	case api.NodeCase:
		return c.caseRow(i)
	case api.NodeDefault:
		return c.defaultRow(i)
	}
	return c.expression(i)
}
