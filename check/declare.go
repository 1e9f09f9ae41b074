package check

import (
	"switchback/api"
	"switchback/word"
)

// function is a function that is being looked at: what it is going to be, and what is known in it by now.
type function struct {
	api.Func
	// loops is how many loops are open, open are the switches.
	loops int
	open  []api.Switch
	// labels has the labels' targets; gotos are the nodes that look for them.
	labels map[string]int
	gotos  []int
	// elements is how many elements the function's arrays have.
	elements int
}

// begin begins a function.
func (c *checker) begin(n api.Node) {
	params, body := len(n.Kids)-1, n.Kids[len(n.Kids)-1]
	c.fn = &function{
		Func:   api.Func{Name: n.Name, Type: n.Type, Params: params, Body: body},
		labels: map[string]int{},
	}
}

// end ends a function, when all its labels are known.
func (c *checker) end() fault {
	for _, i := range c.fn.gotos {
		n := &c.nodes[i]
		target, ok := c.fn.labels[n.Name]
		if !ok {
			return fault{n.At, api.ErrCheckLabel}
		}
		n.Own = target
	}
	c.funcs = append(c.funcs, c.fn.Func)
	c.fn = nil
	return fault{}
}

// entry makes an entry of an enum known.
func (c *checker) entry(i int) fault {
	n := c.nodes[i]
	if len(n.Kids) > 0 {
		c.next = c.known[n.Kids[0]]
	}
	c.innermost()[n.Name] = symbol{kind: anEntry, num: int(c.next)}
	c.next++
	return fault{}
}

func (c *checker) parameter(i int) fault {
	n := c.nodes[i]
	switch _, twice := c.innermost()[n.Name]; {
	case n.Type == api.TypeVoid:
		return fault{n.At, api.ErrCheckKind}
	case twice:
		return fault{n.At, api.ErrCheckTwice}
	case len(c.fn.Vars) == api.MaxParams:
		return fault{n.At, api.ErrCheckMany}
	}
	c.declare(n, api.Var{Name: n.Name, Type: n.Type, Size: -n.Op})
	return fault{}
}

func (c *checker) variable(i int) fault {
	n := c.nodes[i]
	if n.Type == api.TypeVoid {
		return fault{n.At, api.ErrCheckKind}
	}
	if f := c.localName(n); f.found() {
		return f
	}
	v := api.Var{Name: n.Name, Type: n.Type}
	switch {
	case n.Op == 1:
		size, f := c.size(n)
		if f.found() {
			return f
		}
		v.Size = size
	case len(n.Kids) == 0:
	case c.fn == nil:
		v.Init = word.Narrow(n.Type, c.known[n.Kids[0]])
	case !c.isValue(n.Kids[0]):
		return fault{c.nodes[n.Kids[0]].At, api.ErrCheckKind}
	}
	c.nodes[i].Num = c.declare(n, v)
	return fault{}
}

// localName finds what is wrong with the name of a function's variable; the file's names were looked at ahead of all.
func (c *checker) localName(n api.Node) fault {
	if c.fn == nil {
		return fault{}
	}
	if _, twice := c.innermost()[n.Name]; twice {
		return fault{n.At, api.ErrCheckTwice}
	}
	if len(c.fn.Vars) == api.MaxVars {
		return fault{n.At, api.ErrCheckMany}
	}
	return fault{}
}

// size is how many elements an array has, counted with those that are there.
func (c *checker) size(n api.Node) (int, fault) {
	size := c.known[n.Kids[0]]
	if size == 0 || size > api.MaxArray {
		return 0, fault{c.nodes[n.Kids[0]].At, api.ErrCheckConst}
	}
	all, most := &c.static, api.MaxStatic
	if c.fn != nil {
		all, most = &c.fn.elements, api.MaxLocal
	}
	*all += int(size)
	if *all > most {
		return 0, fault{n.At, api.ErrCheckMany}
	}
	if len(n.Kids) > 1 {
		return 0, fault{n.At, api.ErrCheckKind}
	}
	return int(size), fault{}
}

// declare makes a variable known, and tells its number.
func (c *checker) declare(n api.Node, v api.Var) int {
	kind := aScalar
	if v.Size != 0 {
		kind = anArray
	}
	list, own := &c.globals, 0
	if c.fn != nil {
		list, own = &c.fn.Vars, 1
	}
	num := len(*list)
	*list = append(*list, v)
	c.innermost()[n.Name] = symbol{kind: kind, typ: n.Type, own: own, num: num}
	return num
}
