package check

import "switchback/api"

// decided looks at what decides an if, a loop or a switch.
func (c *checker) decided(i int) fault {
	n := c.nodes[i]
	decider := n.Kids[0]
	if n.Kind == api.NodeDo || n.Kind == api.NodeFor {
		decider = n.Kids[1]
	}
	if c.nodes[decider].Kind == api.NodeEmpty {
		return fault{}
	}
	return c.values(decider)
}

// switchRow gives a switch its number: the switches within it have theirs.
func (c *checker) switchRow(i int) fault {
	if f := c.decided(i); f.found() {
		return f
	}
	c.nodes[i].Num = len(c.fn.Switches)
	c.fn.Switches = append(c.fn.Switches, *c.innerSwitch())
	return fault{}
}

// innerSwitch is the innermost switch that is open, or nil.
func (c *checker) innerSwitch() *api.Switch {
	if len(c.fn.open) == 0 {
		return nil
	}
	return &c.fn.open[len(c.fn.open)-1]
}

// leaves looks at a break or a continue.
func (c *checker) leaves(i int) fault {
	n := c.nodes[i]
	if c.fn.loops > 0 || n.Kind == api.NodeBreak && len(c.fn.open) > 0 {
		return fault{}
	}
	return fault{n.At, api.ErrCheckBreak}
}

func (c *checker) returned(i int) fault {
	n := c.nodes[i]
	gives, wants := len(n.Kids) > 0, c.fn.Type != api.TypeVoid
	if gives != wants || gives && !c.isValue(n.Kids[0]) {
		return fault{n.At, api.ErrCheckReturn}
	}
	return fault{}
}

// target gives a label, a case or a default its target.
func (c *checker) target(i int) (int, fault) {
	n := &c.nodes[i]
	if c.fn.Targets == api.MaxTargets {
		return 0, fault{n.At, api.ErrCheckMany}
	}
	n.Own = c.fn.Targets
	c.fn.Targets++
	return n.Own, fault{}
}

func (c *checker) label(i int) fault {
	n := c.nodes[i]
	if _, twice := c.fn.labels[n.Name]; twice {
		return fault{n.At, api.ErrCheckTwice}
	}
	target, f := c.target(i)
	c.fn.labels[n.Name] = target
	return f
}

func (c *checker) caseRow(i int) fault {
	n := &c.nodes[i]
	s := c.innerSwitch()
	if s == nil {
		return fault{n.At, api.ErrCheckCase}
	}
	value := c.known[n.Kids[0]]
	for _, ahead := range s.Cases {
		if ahead.Num == value {
			return fault{n.At, api.ErrCheckTwice}
		}
	}
	target, f := c.target(i)
	n.Num = int(value)
	s.Cases = append(s.Cases, api.Choice{Num: value, Target: target})
	return f
}

func (c *checker) defaultRow(i int) fault {
	n := c.nodes[i]
	s := c.innerSwitch()
	switch {
	case s == nil:
		return fault{n.At, api.ErrCheckCase}
	case s.Default >= 0:
		return fault{n.At, api.ErrCheckDefault}
	}
	target, f := c.target(i)
	s.Default = target
	return f
}
