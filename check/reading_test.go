package check_test

import "switchback/api"

// program is what P3.2 asks for, each part found in the tree by itself.
func (r *reading) program() api.Program {
	p := api.Program{}
	for i, n := range r.nodes {
		if n.Kind == api.NodeVar && r.functionOf(i) < 0 {
			p.Globals = append(p.Globals, r.variable(i))
		}
		p.Nodes = append(p.Nodes, r.node(i))
	}
	for k, f := range r.functions() {
		p.Funcs = append(p.Funcs, r.function(f))
		if r.nodes[f].Name == "main" {
			p.Main = k
		}
	}
	return p
}

func (r *reading) variable(d int) api.Var {
	n := r.nodes[d]
	v := api.Var{Name: n.Name, Type: n.Type}
	switch {
	case n.Kind == api.NodeParam && n.Op == 1:
		v.Size = -1
	case n.Op == 1:
		v.Size = int(r.value(n.Kids[0]))
	case r.functionOf(d) < 0 && len(n.Kids) == 1:
		v.Init = uint32(r.value(n.Kids[0]))
		if n.Type == api.TypeChar {
			v.Init %= 256
		}
	}
	return v
}

func (r *reading) function(f int) api.Func {
	n := r.nodes[f]
	body := n.Kids[len(n.Kids)-1]
	fn := api.Func{Name: n.Name, Type: n.Type, Params: len(n.Kids) - 1, Body: body, Targets: r.target(body)}
	for _, d := range r.inFunction(body, api.NodeParam) {
		fn.Vars = append(fn.Vars, r.variable(d))
	}
	for _, d := range r.inFunction(body, api.NodeVar) {
		fn.Vars = append(fn.Vars, r.variable(d))
	}
	for _, s := range r.inFunction(body, api.NodeSwitch) {
		fn.Switches = append(fn.Switches, r.theSwitch(s))
	}
	return fn
}

func (r *reading) theSwitch(s int) api.Switch {
	w := api.Switch{Default: -1}
	for _, i := range r.inFunction(s, api.NodeCase, api.NodeDefault) {
		switch {
		case r.switchOf(i) != s:
		case r.nodes[i].Kind == api.NodeCase:
			w.Cases = append(w.Cases, api.Choice{Num: uint32(r.value(r.nodes[i].Kids[0])), Target: r.target(i)})
		default:
			w.Default = r.target(i)
		}
	}
	return w
}

// numberOf is a variable's number among those of its function, or of the file.
func (r *reading) numberOf(d int) int {
	return len(r.inFunction(d, api.NodeParam, api.NodeVar))
}

func (r *reading) functionNumber(m meaning) int {
	if m.node < 0 {
		return m.given
	}
	k := 0
	for r.functions()[k] != m.node {
		k++
	}
	return k
}

func (r *reading) expressionType(i int) int {
	return map[string]int{"void": api.TypeVoid, "int": api.TypeInt, "unsigned": api.TypeUnsigned}[r.typ(i)]
}

func (r *reading) node(i int) api.Node {
	n := r.nodes[i]
	switch n.Kind {
	case api.NodeName, api.NodeIndex:
		return r.namedNode(i)
	case api.NodeCall:
		n.Num = r.functionNumber(r.meaning(n.Name, i))
		n.Type = r.expressionType(i)
	case api.NodeUnary, api.NodeBinary, api.NodeAnd, api.NodeOr, api.NodeCond, api.NodeAssign, api.NodePre, api.NodePost, api.NodeComma:
		n.Type = r.expressionType(i)
	case api.NodeLabel, api.NodeDefault:
		n.Own = r.target(i)
	case api.NodeCase:
		n.Own = r.target(i)
		n.Num = int(r.value(n.Kids[0]))
	case api.NodeGoto:
		n.Own = r.target(r.labelOf(i))
	case api.NodeSwitch:
		n.Num = len(r.inFunction(i, api.NodeSwitch))
	case api.NodeVar:
		n.Num = r.numberOf(i)
	}
	return n
}

func (r *reading) namedNode(i int) api.Node {
	n := r.nodes[i]
	m := r.meaning(n.Name, i)
	if m.kind == "entry" {
		return api.Node{Kind: api.NodeNum, At: n.At, Num: int(r.entryValue(m.node)), Type: api.TypeInt, Kids: n.Kids}
	}
	n.Num = r.numberOf(m.node)
	if r.functionOf(m.node) >= 0 {
		n.Op = 1
	}
	if n.Kind == api.NodeName && m.kind == "array" {
		n.Kind = api.NodeArray
		return n
	}
	n.Type = r.expressionType(i)
	return n
}
