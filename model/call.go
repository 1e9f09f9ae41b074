package model

import (
	"switchback/api"
	"switchback/word"
)

// call is a call that is open.
type call struct {
	*machine
	fn      *api.Func
	targets []int
	own     memory
	given   uint32
}

// arguments are what is handed to a function: by the number of its parameter a word or an array.
type arguments struct {
	words  []uint32
	arrays [][]uint32
}

// enter calls a function of the program: what stops the run in it is told as from within it.
func (m *machine) enter(f int, args arguments) (uint32, error) {
	if m.depth == api.MaxCalls {
		return 0, trapped{api.TrapDepth}
	}
	fn := &m.program.Funcs[f]
	c := &call{machine: m, fn: fn, targets: m.ways.targets[f], own: newMemory(fn.Vars)}
	for k, v := range fn.Vars[:fn.Params] {
		c.own.words[k] = word.Narrow(v.Type, args.words[k])
		c.own.arrays[k] = args.arrays[k]
	}
	m.depth++
	err := c.do(fn.Body)
	m.depth--
	if err != nil {
		return 0, within{fn.Name, err}
	}
	return c.given, nil
}

// call evaluates a NodeCall: its arguments, then the function.
func (c *call) call(n *api.Node) (uint32, error) {
	args, err := c.arguments(n)
	if err != nil {
		return 0, err
	}
	switch n.Num {
	case api.CallGetc:
		return c.getc(), nil
	case api.CallPutc:
		return c.putc(args.words[0]), nil
	case api.CallExit:
		return 0, exited{args.words[0]}
	}
	return c.enter(n.Num, args)
}

func (c *call) arguments(n *api.Node) (arguments, error) {
	args := arguments{make([]uint32, len(n.Kids)), make([][]uint32, len(n.Kids))}
	for k, kid := range n.Kids {
		x := &c.program.Nodes[kid]
		if x.Kind == api.NodeArray {
			args.arrays[k] = c.memoryOf(x).arrays[x.Num]
			continue
		}
		w, err := c.evaluate(kid)
		if err != nil {
			return arguments{}, err
		}
		args.words[k] = w
	}
	return args, nil
}

// getc is the next byte of the input, or all ones behind its end.
func (c *call) getc() uint32 {
	if c.input == "" {
		return ^uint32(0)
	}
	b := c.input[0]
	c.input = c.input[1:]
	return uint32(b)
}

func (c *call) putc(w uint32) uint32 {
	c.output = append(c.output, byte(w))
	return w % 256
}

// memoryOf is where a node's variable is: the call's own ones have the Op 1.
func (c *call) memoryOf(n *api.Node) *memory {
	if n.Op == 1 {
		return &c.own
	}
	return &c.globals
}
