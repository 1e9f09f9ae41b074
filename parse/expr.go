package parse

import "switchback/api"

// operator is a sign between two expressions, the node that it makes, and how strongly it binds.
type operator struct {
	sign     string
	kind     int
	op       int
	strength int
}

const weakest = 1

// operators are all that bind from the left, from the weakest to the strongest.
var operators = [...]operator{
	{"||", api.NodeOr, 0, weakest},
	{"&&", api.NodeAnd, 0, 2},
	{"|", api.NodeBinary, api.OpOr, 3},
	{"^", api.NodeBinary, api.OpXor, 4},
	{"&", api.NodeBinary, api.OpAnd, 5},
	{"==", api.NodeBinary, api.OpEq, 6},
	{"!=", api.NodeBinary, api.OpNe, 6},
	{"<", api.NodeBinary, api.OpLt, 7},
	{"<=", api.NodeBinary, api.OpLe, 7},
	{">", api.NodeBinary, api.OpGt, 7},
	{">=", api.NodeBinary, api.OpGe, 7},
	{"<<", api.NodeBinary, api.OpShl, 8},
	{">>", api.NodeBinary, api.OpShr, 8},
	{"+", api.NodeBinary, api.OpAdd, 9},
	{"-", api.NodeBinary, api.OpSub, 9},
	{"*", api.NodeBinary, api.OpMul, 10},
	{"/", api.NodeBinary, api.OpDiv, 10},
	{"%", api.NodeBinary, api.OpRem, 10},
}

// operatorOf tells which operator a token is; one of the strength 0, if it is none.
func operatorOf(t api.Token) operator {
	for _, o := range operators {
		if is(t, api.TokSign, o.sign) {
			return o
		}
	}
	return operator{}
}

// assignOp tells with which operation a token assigns: 0 with none.
func assignOp(t api.Token) (int, bool) {
	if t.Kind != api.TokSign {
		return 0, false
	}
	switch t.Text {
	case "=":
		return 0, true
	case "+=":
		return api.OpAdd, true
	case "-=":
		return api.OpSub, true
	case "*=":
		return api.OpMul, true
	case "/=":
		return api.OpDiv, true
	case "%=":
		return api.OpRem, true
	case "<<=":
		return api.OpShl, true
	case ">>=":
		return api.OpShr, true
	case "&=":
		return api.OpAnd, true
	case "^=":
		return api.OpXor, true
	case "|=":
		return api.OpOr, true
	}
	return 0, false
}

// prefixNode tells which node a token makes of what stands behind it.
func prefixNode(t api.Token) (kind, op int, ok bool) {
	if t.Kind != api.TokSign {
		return 0, 0, false
	}
	switch t.Text {
	case "-":
		return api.NodeUnary, api.OpNeg, true
	case "+":
		return api.NodeUnary, api.OpPlus, true
	case "~":
		return api.NodeUnary, api.OpNot, true
	case "!":
		return api.NodeUnary, api.OpNil, true
	case "++":
		return api.NodePre, api.OpAdd, true
	case "--":
		return api.NodePre, api.OpSub, true
	}
	return 0, 0, false
}

func (p *parser) expr() int {
	left := p.assign()
	for p.sees(api.TokSign, ",") {
		at := p.take().At
		right := p.assign()
		left = p.add(api.Node{Kind: api.NodeComma, At: at, Kids: []int{left, right}})
	}
	return left
}

func (p *parser) assign() int {
	left := p.cond()
	op, ok := assignOp(p.peek())
	if !ok {
		return left
	}
	at := p.take().At
	right := p.assign()
	return p.add(api.Node{Kind: api.NodeAssign, At: at, Op: op, Kids: []int{left, right}})
}

func (p *parser) cond() int {
	first := p.climb(weakest)
	if !p.sees(api.TokSign, "?") {
		return first
	}
	at := p.take().At
	second := p.expr()
	p.sign(":")
	third := p.cond()
	return p.add(api.Node{Kind: api.NodeCond, At: at, Kids: []int{first, second, third}})
}

// climb reads what operators bind that are at least so strong.
func (p *parser) climb(least int) int {
	left := p.unary()
	for {
		o := operatorOf(p.peek())
		if o.strength < least {
			return left
		}
		at := p.take().At
		// On the right only what binds more strongly: operators of one strength go from the left.
		right := p.climb(o.strength + 1)
		left = p.add(api.Node{Kind: o.kind, At: at, Op: o.op, Kids: []int{left, right}})
	}
}

func (p *parser) unary() int {
	kind, op, ok := prefixNode(p.peek())
	if !ok {
		return p.postfix()
	}
	at := p.take().At
	kid := p.unary()
	return p.add(api.Node{Kind: kind, At: at, Op: op, Kids: []int{kid}})
}

func (p *parser) postfix() int {
	kid := p.primary()
	for {
		op := 0
		switch {
		case p.sees(api.TokSign, "++"):
			op = api.OpAdd
		case p.sees(api.TokSign, "--"):
			op = api.OpSub
		default:
			return kid
		}
		kid = p.add(api.Node{Kind: api.NodePost, At: p.take().At, Op: op, Kids: []int{kid}})
	}
}

func (p *parser) primary() int {
	switch {
	case p.peek().Kind == api.TokNum:
		return p.num()
	case p.peek().Kind == api.TokName:
		return p.named()
	}
	return p.bracketed()
}

func (p *parser) num() int {
	t := p.take()
	typ := api.TypeInt
	if t.Unsigned {
		typ = api.TypeUnsigned
	}
	return p.add(api.Node{Kind: api.NodeNum, At: t.At, Type: typ, Num: int(t.Num)})
}

// named reads a name, and the brackets that may only stand behind a name itself.
func (p *parser) named() int {
	name, at := p.name()
	switch {
	case p.accept(api.TokSign, "["):
		kid := p.expr()
		p.sign("]")
		return p.add(api.Node{Kind: api.NodeIndex, At: at, Name: name, Kids: []int{kid}})
	case p.accept(api.TokSign, "("):
		return p.add(api.Node{Kind: api.NodeCall, At: at, Name: name, Kids: p.arguments()})
	}
	return p.add(api.Node{Kind: api.NodeName, At: at, Name: name})
}

// arguments reads what stands behind a call's bracket, and the bracket that closes it.
func (p *parser) arguments() []int {
	if p.accept(api.TokSign, ")") {
		return nil
	}
	kids := []int{p.assign()}
	for p.accept(api.TokSign, ",") {
		kids = append(kids, p.assign())
	}
	p.sign(")")
	return kids
}
