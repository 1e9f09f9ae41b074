package flow

import "switchback/api"

// around are the blocks to which a break and a continue go.
type around struct {
	left int
	next int
}

// statement writes a statement.
func (b *builder) statement(i int, a around) {
	n := b.node(i)
	switch n.Kind {
	case api.NodeExpr:
		b.effect(n.Kids[0])
	case api.NodeDecl:
		b.declare(n)
	case api.NodeBlock:
		for _, kid := range n.Kids {
			b.statement(kid, a)
		}
	case api.NodeIf:
		b.choose(n, a)
	case api.NodeWhile:
		b.whileLoop(n)
	case api.NodeDo:
		b.doLoop(n)
	case api.NodeFor:
		b.forLoop(n)
	case api.NodeSwitch:
		b.switches(n, a)
	case api.NodeLabel, api.NodeCase, api.NodeDefault:
		b.begin(b.target(n.Own))
		b.statement(n.Kids[len(n.Kids)-1], a)
	case api.NodeGoto:
		b.jump(b.target(n.Own))
	case api.NodeBreak:
		b.jump(a.left)
	case api.NodeContinue:
		b.jump(a.next)
	case api.NodeReturn:
		b.giveBack(n)
	}
}

// declare stores what variables begin with. An array has nothing of that kind.
func (b *builder) declare(n *api.Node) {
	for _, kid := range n.Kids {
		v := b.node(kid)
		if v.Op == 0 && len(v.Kids) > 0 {
			b.fill(b.ownScalar(v.Num), v.Kids[0])
		}
	}
}

func (b *builder) choose(n *api.Node, a around) {
	yes, behind := b.block(), b.block()
	if len(n.Kids) < 3 {
		b.branch(n.Kids[0], yes, behind)
		b.begin(yes)
		b.statement(n.Kids[1], a)
		b.begin(behind)
		return
	}
	no := b.block()
	b.branch(n.Kids[0], yes, no)
	b.begin(yes)
	b.statement(n.Kids[1], a)
	b.jump(behind)
	b.begin(no)
	b.statement(n.Kids[2], a)
	b.begin(behind)
}

func (b *builder) whileLoop(n *api.Node) {
	head, body, behind := b.block(), b.block(), b.block()
	b.begin(head)
	b.branch(n.Kids[0], body, behind)
	b.begin(body)
	b.statement(n.Kids[1], around{behind, head})
	b.jump(head)
	b.begin(behind)
}

func (b *builder) doLoop(n *api.Node) {
	body, foot, behind := b.block(), b.block(), b.block()
	b.begin(body)
	b.statement(n.Kids[0], around{behind, foot})
	b.begin(foot)
	b.branch(n.Kids[1], body, behind)
	b.begin(behind)
}

func (b *builder) forLoop(n *api.Node) {
	head, body, foot, behind := b.block(), b.block(), b.block(), b.block()
	b.piece(n.Kids[0])
	b.begin(head)
	if b.node(n.Kids[1]).Kind != api.NodeEmpty {
		b.branch(n.Kids[1], body, behind)
	}
	b.begin(body)
	b.statement(n.Kids[3], around{behind, foot})
	b.begin(foot)
	b.piece(n.Kids[2])
	b.jump(head)
	b.begin(behind)
}

// piece writes the first or the third piece of a for.
func (b *builder) piece(i int) {
	switch b.node(i).Kind {
	case api.NodeEmpty:
	case api.NodeDecl:
		b.declare(b.node(i))
	default:
		b.effect(i)
	}
}

func (b *builder) switches(n *api.Node, a around) {
	s := b.fn.Switches[n.Num]
	behind := b.block()
	e := api.End{Kind: api.EndSwitch, A: b.value(n.Kids[0]), To: behind}
	for _, c := range s.Cases {
		e.Cases = append(e.Cases, api.Case{N: c.Num, To: b.target(c.Target)})
	}
	if s.Default >= 0 {
		e.To = b.target(s.Default)
	}
	b.end(e)
	b.statement(n.Kids[1], around{behind, a.next})
	b.begin(behind)
}

func (b *builder) giveBack(n *api.Node) {
	e := api.End{Kind: api.EndReturn, A: none}
	if len(n.Kids) > 0 {
		e.A = b.narrowed(b.fn.Type, b.value(n.Kids[0]))
	}
	b.end(e)
}
