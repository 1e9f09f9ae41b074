package model_test

import (
	"switchback/api"
)

// A second way to run programs: each function is written out as a list of small operations for a stack, with jumps between them, and one loop goes through them.

type operation struct {
	kind string
	n    int          // a number, a place in the list, an operator
	m    int          // a second one
	node api.Node     // of a variable: Op and Num
	s    []api.Choice // of a switch
}

type cell struct {
	w     uint32
	array *cells
}

type cells struct {
	typ   int
	words []uint32
}

type writer struct {
	p       api.Program
	fn      api.Func
	list    []operation
	targets map[int]int // the places of a function's targets
	patches []func()
	breaks  []*[]int // for each that may be left: the jumps that leave it
	goesOn  []*[]int
}

type machineCode struct {
	p       api.Program
	entries []int
	list    []operation
}

func written(p api.Program) machineCode {
	w := &writer{p: p}
	c := machineCode{p: p}
	for _, fn := range p.Funcs {
		w.fn, w.targets, w.patches = fn, map[int]int{}, nil
		c.entries = append(c.entries, len(w.list))
		w.statement(fn.Body)
		w.put(operation{kind: "push"})
		w.put(operation{kind: "return", m: fn.Type})
		for _, f := range w.patches {
			f()
		}
	}
	c.list = w.list
	return c
}

func (w *writer) put(o operation) int {
	w.list = append(w.list, o)
	return len(w.list) - 1
}

func (w *writer) tick() {
	w.put(operation{kind: "tick"})
}

// here makes jumps go to what is written next.
func (w *writer) here(jumps ...int) {
	for _, j := range jumps {
		w.list[j].n = len(w.list)
	}
}

func (w *writer) toTarget(jump, target int) {
	w.patches = append(w.patches, func() { w.list[jump].n = w.targets[target] })
}

func (w *writer) statement(i int) {
	n := w.p.Nodes[i]
	switch n.Kind {
	case api.NodeLabel, api.NodeCase, api.NodeDefault:
		w.targets[n.Own] = len(w.list)
	}
	w.tick()
	switch n.Kind {
	case api.NodeExpr:
		w.expr(n.Kids[0])
		w.put(operation{kind: "pop"})
	case api.NodeDecl:
		w.decl(n)
	case api.NodeBlock:
		for _, kid := range n.Kids {
			w.statement(kid)
		}
	case api.NodeIf:
		w.ifStatement(n)
	case api.NodeWhile, api.NodeDo, api.NodeFor:
		w.loop(n)
	case api.NodeSwitch:
		w.switchStatement(n)
	case api.NodeLabel, api.NodeDefault:
		w.statement(n.Kids[0])
	case api.NodeCase:
		w.statement(n.Kids[1])
	case api.NodeGoto:
		w.toTarget(w.put(operation{kind: "jump"}), n.Own)
	case api.NodeBreak:
		b := w.breaks[len(w.breaks)-1]
		*b = append(*b, w.put(operation{kind: "jump"}))
	case api.NodeContinue:
		c := w.goesOn[len(w.goesOn)-1]
		*c = append(*c, w.put(operation{kind: "jump"}))
	case api.NodeReturn:
		if len(n.Kids) > 0 {
			w.expr(n.Kids[0])
		} else {
			w.put(operation{kind: "push"})
		}
		w.put(operation{kind: "return", m: w.fn.Type})
	}
}

func (w *writer) decl(n api.Node) {
	for _, kid := range n.Kids {
		v := w.p.Nodes[kid]
		if v.Op == 0 && len(v.Kids) > 0 {
			w.expr(v.Kids[0])
			w.put(operation{kind: "store", node: api.Node{Op: 1, Num: v.Num}})
			w.put(operation{kind: "pop"})
		}
	}
}

func (w *writer) ifStatement(n api.Node) {
	w.expr(n.Kids[0])
	past := w.put(operation{kind: "unless"})
	w.statement(n.Kids[1])
	if len(n.Kids) == 3 {
		end := w.put(operation{kind: "jump"})
		w.here(past)
		w.statement(n.Kids[2])
		past = end
	}
	w.here(past)
}

// unless writes a condition and a jump for where it is not true; none for a missing one.
func (w *writer) unless(i int) []int {
	if w.p.Nodes[i].Kind == api.NodeEmpty {
		return nil
	}
	w.expr(i)
	return []int{w.put(operation{kind: "unless"})}
}

func (w *writer) effect(i int) {
	switch n := w.p.Nodes[i]; n.Kind {
	case api.NodeEmpty:
	case api.NodeDecl:
		w.tick()
		w.decl(n)
	default:
		w.expr(i)
		w.put(operation{kind: "pop"})
	}
}

func (w *writer) loop(n api.Node) {
	breaks, goesOn := &[]int{}, &[]int{}
	w.breaks, w.goesOn = append(w.breaks, breaks), append(w.goesOn, goesOn)
	var over []int
	switch n.Kind {
	case api.NodeWhile:
		top := len(w.list)
		over = w.unless(n.Kids[0])
		w.statement(n.Kids[1])
		for _, j := range *goesOn {
			w.list[j].n = top
		}
		w.put(operation{kind: "jump", n: top})
	case api.NodeDo:
		top := len(w.list)
		w.statement(n.Kids[0])
		w.here(*goesOn...)
		over = w.unless(n.Kids[1])
		w.put(operation{kind: "jump", n: top})
	case api.NodeFor:
		w.effect(n.Kids[0])
		top := len(w.list)
		over = w.unless(n.Kids[1])
		w.statement(n.Kids[3])
		w.here(*goesOn...)
		w.effect(n.Kids[2])
		w.put(operation{kind: "jump", n: top})
	}
	w.here(over...)
	w.here(*breaks...)
	w.breaks, w.goesOn = w.breaks[:len(w.breaks)-1], w.goesOn[:len(w.goesOn)-1]
}

func (w *writer) switchStatement(n api.Node) {
	s := w.fn.Switches[n.Num]
	w.expr(n.Kids[0])
	at := w.put(operation{kind: "switch"})
	other := w.put(operation{kind: "jump"})
	w.patches = append(w.patches, func() {
		for _, c := range s.Cases {
			w.list[at].s = append(w.list[at].s, api.Choice{Num: c.Num, Target: w.targets[c.Target]})
		}
	})
	breaks := &[]int{}
	w.breaks = append(w.breaks, breaks)
	w.statement(n.Kids[1])
	if s.Default >= 0 {
		w.toTarget(other, s.Default)
	} else {
		w.here(other)
	}
	w.here(*breaks...)
	w.breaks = w.breaks[:len(w.breaks)-1]
}

func (w *writer) expr(i int) {
	n := w.p.Nodes[i]
	w.tick()
	switch n.Kind {
	case api.NodeNum:
		w.put(operation{kind: "push", n: n.Num})
	case api.NodeName:
		w.put(operation{kind: "load", node: n})
	case api.NodeIndex:
		w.expr(n.Kids[0])
		w.put(operation{kind: "element", node: n})
	case api.NodeUnary:
		w.expr(n.Kids[0])
		w.put(operation{kind: "unary", n: n.Op})
	case api.NodeBinary:
		w.expr(n.Kids[0])
		w.expr(n.Kids[1])
		w.binary(n)
	case api.NodeAnd, api.NodeOr:
		w.expr(n.Kids[0])
		kind := "unless"
		if n.Kind == api.NodeOr {
			kind = "if"
		}
		w.put(operation{kind: "truth"})
		w.put(operation{kind: "again"})
		j := w.put(operation{kind: kind})
		w.put(operation{kind: "pop"})
		w.expr(n.Kids[1])
		w.put(operation{kind: "truth"})
		w.here(j)
	case api.NodeCond:
		w.expr(n.Kids[0])
		past := w.put(operation{kind: "unless"})
		w.expr(n.Kids[1])
		end := w.put(operation{kind: "jump"})
		w.here(past)
		w.expr(n.Kids[2])
		w.here(end)
	case api.NodeComma:
		w.expr(n.Kids[0])
		w.put(operation{kind: "pop"})
		w.expr(n.Kids[1])
	case api.NodeAssign:
		w.assign(n)
	case api.NodePre, api.NodePost:
		w.count(n)
	case api.NodeCall:
		w.call(n)
	}
}

// binary writes an operation; m tells whether it is signed.
func (w *writer) binary(n api.Node) {
	left, right := w.p.Nodes[n.Kids[0]].Type, w.p.Nodes[n.Kids[1]].Type
	o := operation{kind: "binary", n: n.Op}
	if left == api.TypeInt && (right == api.TypeInt || n.Op == api.OpShr) {
		o.m = 1
	}
	w.put(o)
}

func (w *writer) assign(n api.Node) {
	left := w.p.Nodes[n.Kids[0]]
	element := left.Kind == api.NodeIndex
	if element {
		w.expr(left.Kids[0])
	}
	if n.Op != 0 {
		w.word(left)
	}
	w.expr(n.Kids[1])
	if n.Op != 0 {
		w.binary(n)
	}
	w.store(left)
}

// word pushes what is there; of an element the index stays below.
func (w *writer) word(left api.Node) {
	if left.Kind == api.NodeIndex {
		w.put(operation{kind: "again"})
		w.put(operation{kind: "element", node: left})
	} else {
		w.put(operation{kind: "load", node: left})
	}
}

func (w *writer) store(left api.Node) {
	if left.Kind == api.NodeIndex {
		w.put(operation{kind: "storeElement", node: left})
	} else {
		w.put(operation{kind: "store", node: left})
	}
}

func (w *writer) count(n api.Node) {
	left := w.p.Nodes[n.Kids[0]]
	if left.Kind == api.NodeIndex {
		w.expr(left.Kids[0])
	}
	w.word(left)
	if n.Kind == api.NodePost {
		w.put(operation{kind: "keep"})
	}
	w.put(operation{kind: "push", n: 1})
	w.put(operation{kind: "binary", n: n.Op})
	w.store(left)
	if n.Kind == api.NodePost {
		w.put(operation{kind: "pop"})
		w.put(operation{kind: "kept"})
	}
}

func (w *writer) call(n api.Node) {
	for _, kid := range n.Kids {
		if a := w.p.Nodes[kid]; a.Kind == api.NodeArray {
			w.put(operation{kind: "array", node: a})
		} else {
			w.expr(kid)
		}
	}
	w.put(operation{kind: "call", n: n.Num, m: len(n.Kids)})
}

// frame is a call that is open.
type frame struct {
	vars  []cell
	types []int
	back  int
	stack []cell
	kept  []cell
}

func newFrame(vars []api.Var, back int) *frame {
	f := &frame{back: back}
	for _, v := range vars {
		c := cell{w: v.Init}
		if v.Size > 0 {
			c.array = &cells{v.Type, make([]uint32, v.Size)}
		}
		f.vars = append(f.vars, c)
		f.types = append(f.types, v.Type)
	}
	return f
}

func mod(typ int, w uint32) uint32 {
	if typ == api.TypeChar {
		return w & 255
	}
	return w
}

func (f *frame) push(w uint32) {
	f.stack = append(f.stack, cell{w: w})
}

func (f *frame) pop() uint32 {
	c := f.stack[len(f.stack)-1]
	f.stack = f.stack[:len(f.stack)-1]
	return c.w
}

// goThrough runs the list, and tells how often it asked for a byte, too.
func (c machineCode) goThrough(input string, fuel int) (api.Outcome, int) {
	global := newFrame(c.p.Globals, -1)
	frames := []*frame{newFrame(c.p.Funcs[c.p.Main].Vars, -1)}
	pc := c.entries[c.p.Main]
	o := api.Outcome{}
	asked := 0
	stop := func(how int, code uint32) (api.Outcome, int) {
		o.Stop, o.Code = how, code
		return o, asked
	}
	for {
		f := frames[len(frames)-1]
		x := c.list[pc]
		pc++
		owner := global
		if x.node.Op == 1 {
			owner = f
		}
		switch x.kind {
		case "tick":
			if o.Steps == fuel {
				return stop(api.StopFuel, 0)
			}
			o.Steps++
		case "push":
			f.push(uint32(x.n))
		case "pop":
			f.pop()
		case "again":
			f.stack = append(f.stack, f.stack[len(f.stack)-1])
		case "keep":
			f.kept = append(f.kept, f.stack[len(f.stack)-1])
		case "kept":
			f.stack = append(f.stack, f.kept[len(f.kept)-1])
			f.kept = f.kept[:len(f.kept)-1]
		case "load":
			f.push(owner.vars[x.node.Num].w)
		case "array":
			f.stack = append(f.stack, cell{array: owner.vars[x.node.Num].array})
		case "element":
			i := f.pop()
			l := owner.vars[x.node.Num].array.words
			if int64(i) >= int64(len(l)) {
				return stop(api.StopTrap, api.TrapIndex)
			}
			f.push(l[i])
		case "store":
			w := mod(owner.types[x.node.Num], f.pop())
			owner.vars[x.node.Num].w = w
			f.push(w)
		case "storeElement":
			w, i := f.pop(), f.pop()
			a := owner.vars[x.node.Num].array
			if int64(i) >= int64(len(a.words)) {
				return stop(api.StopTrap, api.TrapIndex)
			}
			a.words[i] = mod(a.typ, w)
			f.push(a.words[i])
		case "unary":
			f.push(unaryOf(x.n, f.pop()))
		case "binary":
			b, a := f.pop(), f.pop()
			if (x.n == api.OpDiv || x.n == api.OpRem) && b == 0 {
				return stop(api.StopTrap, api.TrapDiv)
			}
			f.push(binaryOf(x.n, x.m == 1, a, b))
		case "truth":
			f.push(truth(f.pop() != 0))
		case "jump":
			pc = x.n
		case "unless":
			if f.pop() == 0 {
				pc = x.n
			}
		case "if":
			if f.pop() != 0 {
				pc = x.n
			}
		case "switch":
			w := f.pop()
			for _, choice := range x.s {
				if choice.Num == w {
					pc = choice.Target
				}
			}
		case "return":
			w := mod(x.m, f.pop())
			pc = f.back
			frames = frames[:len(frames)-1]
			if len(frames) == 0 {
				return stop(api.StopExit, w)
			}
			frames[len(frames)-1].push(w)
		case "call":
			args := append([]cell(nil), f.stack[len(f.stack)-x.m:]...)
			f.stack = f.stack[:len(f.stack)-x.m]
			switch {
			case x.n == api.CallGetc && asked < len(input):
				f.push(uint32(input[asked]))
				asked++
			case x.n == api.CallGetc:
				f.push(0xffffffff)
				asked++
			case x.n == api.CallPutc:
				o.Output += string([]byte{byte(args[0].w)})
				f.push(args[0].w & 255)
			case x.n == api.CallExit:
				return stop(api.StopExit, args[0].w)
			case len(frames) == 50:
				return stop(api.StopTrap, api.TrapDepth)
			default:
				g := newFrame(c.p.Funcs[x.n].Vars, pc)
				for k, a := range args {
					g.vars[k] = cell{mod(g.types[k], a.w), a.array}
				}
				frames = append(frames, g)
				pc = c.entries[x.n]
			}
		}
	}
}

func truth(is bool) uint32 {
	if is {
		return 1
	}
	return 0
}

func unaryOf(op int, x uint32) uint32 {
	switch op {
	case api.OpNeg:
		return 0 - x
	case api.OpNot:
		return 0xffffffff - x
	case api.OpNil:
		return truth(x == 0)
	}
	return x
}

// binaryOf reckons with numbers that are wide enough not to wrap.
func binaryOf(op int, signed bool, x, y uint32) uint32 {
	a, b := int64(x), int64(y)
	if signed {
		a, b = int64(int32(x)), int64(int32(y))
	}
	switch op {
	case api.OpAdd:
		return uint32(a + b)
	case api.OpSub:
		return uint32(a - b)
	case api.OpMul:
		return uint32(a * b)
	case api.OpDiv:
		return uint32(a / b)
	case api.OpRem:
		return uint32(a % b)
	case api.OpShl:
		return uint32(a << (y & 31))
	case api.OpShr:
		return uint32(a >> (y & 31))
	case api.OpAnd:
		return x & y
	case api.OpOr:
		return x | y
	case api.OpXor:
		return x ^ y
	case api.OpEq:
		return truth(a == b)
	case api.OpNe:
		return truth(a != b)
	case api.OpLt:
		return truth(a < b)
	case api.OpLe:
		return truth(a <= b)
	case api.OpGt:
		return truth(a > b)
	}
	return truth(a >= b)
}
