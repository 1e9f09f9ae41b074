package parse_test

import (
	"math/rand"
	"testing"

	"switchback/api"
	"switchback/parse"
)

// leaf is a node with its kids, as the grammar's rules make them.
type leaf struct {
	node api.Node
	kids []*leaf
}

// deriver goes down the grammar's rules by chance, and writes the tokens and the nodes that they stand for.
type deriver struct {
	r      *rand.Rand
	extra  *rand.Rand // where it is there, it chooses which expressions get brackets that change nothing
	left   int        // how much more may be begun
	tokens []api.Token
	at     int
	tree   *leaf
}

func derive(r, extra *rand.Rand, size int) *deriver {
	d := &deriver{r: r, extra: extra, left: size}
	d.tree = d.file()
	return d
}

// chance is true one time in so many, while there is something left.
func (d *deriver) chance(n int) bool {
	hit := d.r.Intn(n) == 0
	return hit && d.left > 0
}

func (d *deriver) token(t api.Token) int {
	d.at += 1 + len(d.tokens)%3
	d.left--
	t.At = d.at
	d.tokens = append(d.tokens, t)
	return d.at
}

func (d *deriver) sign(s string) int { return d.token(api.Token{Kind: api.TokSign, Text: s}) }
func (d *deriver) word(s string) int { return d.token(api.Token{Kind: api.TokWord, Text: s}) }

func (d *deriver) name() (string, int) {
	s := []string{"a", "b", "main", "x9"}[d.r.Intn(4)]
	return s, d.token(api.Token{Kind: api.TokName, Text: s})
}

func (d *deriver) typeWord() (int, int) {
	i := d.r.Intn(4)
	return []int{api.TypeVoid, api.TypeInt, api.TypeUnsigned, api.TypeChar}[i], d.word([]string{"void", "int", "unsigned", "char"}[i])
}

func newLeaf(kind, at int, kids ...*leaf) *leaf {
	return &leaf{api.Node{Kind: kind, At: at}, kids}
}

func (d *deriver) file() *leaf {
	f := newLeaf(api.NodeFile, 0)
	for range d.r.Intn(4) {
		f.kids = append(f.kids, d.item())
	}
	d.token(api.Token{Kind: api.TokEnd})
	return f
}

func (d *deriver) item() *leaf {
	switch d.r.Intn(6) {
	case 0:
		return d.enum()
	case 1:
		return d.decl()
	}
	typ, at := d.typeWord()
	name, _ := d.name()
	f := newLeaf(api.NodeFunc, at)
	f.node.Type, f.node.Name = typ, name
	d.sign("(")
	if d.r.Intn(4) == 0 {
		d.word("void")
	} else {
		for i := range d.r.Intn(5) {
			if i > 0 {
				d.sign(",")
			}
			f.kids = append(f.kids, d.param())
		}
	}
	d.sign(")")
	f.kids = append(f.kids, d.block())
	return f
}

func (d *deriver) param() *leaf {
	typ, at := d.typeWord()
	name, _ := d.name()
	p := newLeaf(api.NodeParam, at)
	p.node.Type, p.node.Name = typ, name
	if d.r.Intn(3) == 0 {
		d.sign("[")
		d.sign("]")
		p.node.Op = 1
	}
	return p
}

func (d *deriver) enum() *leaf {
	e := newLeaf(api.NodeEnum, d.word("enum"))
	d.sign("{")
	for {
		name, at := d.name()
		i := newLeaf(api.NodeItem, at)
		i.node.Name = name
		if d.chance(3) {
			d.sign("=")
			i.kids = append(i.kids, d.cond())
		}
		e.kids = append(e.kids, i)
		if !d.chance(2) {
			break
		}
		d.sign(",")
	}
	if d.r.Intn(3) == 0 {
		d.sign(",")
	}
	d.sign("}")
	d.sign(";")
	return e
}

func (d *deriver) decl() *leaf {
	typ, at := d.typeWord()
	n := newLeaf(api.NodeDecl, at)
	for {
		n.kids = append(n.kids, d.variable(typ))
		if !d.chance(3) {
			break
		}
		d.sign(",")
	}
	d.sign(";")
	return n
}

func (d *deriver) variable(typ int) *leaf {
	name, at := d.name()
	v := newLeaf(api.NodeVar, at)
	v.node.Type, v.node.Name = typ, name
	if d.chance(4) {
		d.sign("[")
		v.kids = append(v.kids, d.cond())
		d.sign("]")
		v.node.Op = 1
	}
	if d.chance(3) {
		d.sign("=")
		v.kids = append(v.kids, d.assign())
	}
	return v
}

func (d *deriver) block() *leaf {
	b := newLeaf(api.NodeBlock, d.sign("{"))
	for d.left > 0 && d.r.Intn(4) > 0 {
		b.kids = append(b.kids, d.statement(false))
	}
	d.sign("}")
	return b
}

// bracketed is an expression between the brackets of a statement.
func (d *deriver) bracketed() *leaf {
	d.sign("(")
	e := d.expr()
	d.sign(")")
	return e
}

// statement derives one; closed: no else behind it may become that of an if in it.
func (d *deriver) statement(closed bool) *leaf {
	if d.left <= 0 {
		return newLeaf(api.NodeEmpty, d.sign(";"))
	}
	switch d.r.Intn(18) {
	case 0:
		return d.block()
	case 1:
		return d.decl()
	case 2, 3:
		return d.ifStatement(closed)
	case 4:
		at := d.word("while")
		e := d.bracketed()
		return newLeaf(api.NodeWhile, at, e, d.statement(closed))
	case 5:
		at := d.word("do")
		s := d.statement(false)
		d.word("while")
		e := d.bracketed()
		d.sign(";")
		return newLeaf(api.NodeDo, at, s, e)
	case 6, 7:
		return d.forStatement(closed)
	case 8:
		return d.simple("break", api.NodeBreak)
	case 9:
		return d.simple("continue", api.NodeContinue)
	case 10:
		n := newLeaf(api.NodeReturn, d.word("return"))
		if d.chance(2) {
			n.kids = append(n.kids, d.expr())
		}
		d.sign(";")
		return n
	case 11:
		n := newLeaf(api.NodeGoto, d.word("goto"))
		n.node.Name, _ = d.name()
		d.sign(";")
		return n
	}
	return d.longStatement(closed)
}

func (d *deriver) longStatement(closed bool) *leaf {
	switch d.r.Intn(6) {
	case 0:
		name, at := d.name()
		d.sign(":")
		n := newLeaf(api.NodeLabel, at, d.statement(closed))
		n.node.Name = name
		return n
	case 1:
		at := d.word("switch")
		e := d.bracketed()
		return newLeaf(api.NodeSwitch, at, e, d.statement(closed))
	case 2:
		at := d.word("case")
		e := d.cond()
		d.sign(":")
		return newLeaf(api.NodeCase, at, e, d.statement(closed))
	case 3:
		at := d.word("default")
		d.sign(":")
		return newLeaf(api.NodeDefault, at, d.statement(closed))
	}
	first := len(d.tokens)
	e := d.expr()
	d.sign(";")
	return newLeaf(api.NodeExpr, d.tokens[first].At, e)
}

func (d *deriver) ifStatement(closed bool) *leaf {
	at := d.word("if")
	e := d.bracketed()
	if !closed && d.r.Intn(2) == 0 {
		return newLeaf(api.NodeIf, at, e, d.statement(false))
	}
	yes := d.statement(true)
	d.word("else")
	return newLeaf(api.NodeIf, at, e, yes, d.statement(closed))
}

func (d *deriver) forStatement(closed bool) *leaf {
	at := d.word("for")
	d.sign("(")
	var first *leaf
	if d.chance(3) {
		first = d.decl()
	} else {
		first = d.maybe(";")
	}
	second := d.maybe(";")
	third := d.maybe(")")
	return newLeaf(api.NodeFor, at, first, second, third, d.statement(closed))
}

// maybe is an expression or nothing, and the sign behind it.
func (d *deriver) maybe(end string) *leaf {
	if !d.chance(2) {
		return newLeaf(api.NodeEmpty, d.sign(end))
	}
	e := d.expr()
	d.sign(end)
	return e
}

func (d *deriver) simple(word string, kind int) *leaf {
	n := newLeaf(kind, d.word(word))
	d.sign(";")
	return n
}

// wrapped writes brackets around what a rule derives, if there are to be some more than needed; they use nothing up of what is left.
func (d *deriver) wrapped(rule func() *leaf) *leaf {
	if d.extra == nil || d.extra.Intn(20) > 0 {
		return rule()
	}
	d.left++
	d.sign("(")
	e := d.wrapped(rule)
	d.left++
	d.sign(")")
	return e
}

func (d *deriver) expr() *leaf {
	return d.wrapped(func() *leaf {
		e := d.assign()
		for d.chance(8) {
			at := d.sign(",")
			e = newLeaf(api.NodeComma, at, e, d.assign())
		}
		return e
	})
}

func (d *deriver) assign() *leaf {
	return d.wrapped(func() *leaf {
		left := d.cond()
		if !d.chance(5) {
			return left
		}
		signs := []string{"=", "+=", "-=", "*=", "/=", "%=", "<<=", ">>=", "&=", "^=", "|="}
		i := d.r.Intn(len(signs))
		at := d.sign(signs[i])
		n := newLeaf(api.NodeAssign, at, left, d.assign())
		n.node.Op = []int{0, api.OpAdd, api.OpSub, api.OpMul, api.OpDiv, api.OpRem, api.OpShl, api.OpShr, api.OpAnd, api.OpXor, api.OpOr}[i]
		return n
	})
}

func (d *deriver) cond() *leaf {
	return d.wrapped(func() *leaf {
		first := d.level(0)
		if !d.chance(6) {
			return first
		}
		at := d.sign("?")
		second := d.expr()
		d.sign(":")
		return newLeaf(api.NodeCond, at, first, second, d.cond())
	})
}

// level derives what the operators from one of the levels on bind.
func (d *deriver) level(i int) *leaf {
	if i == len(levels) {
		return d.unary()
	}
	return d.wrapped(func() *leaf {
		e := d.level(i + 1)
		for d.chance(12) {
			s := levels[i][d.r.Intn(len(levels[i]))]
			kind := api.NodeBinary
			if s == "||" {
				kind = api.NodeOr
			} else if s == "&&" {
				kind = api.NodeAnd
			}
			at := d.sign(s)
			e = newLeaf(kind, at, e, d.level(i+1))
			e.node.Op = binaryOps()[s]
		}
		return e
	})
}

func (d *deriver) unary() *leaf {
	return d.wrapped(func() *leaf {
		if !d.chance(5) {
			return d.postfix()
		}
		i := d.r.Intn(6)
		at := d.sign([]string{"-", "+", "~", "!", "++", "--"}[i])
		n := newLeaf([]int{api.NodeUnary, api.NodeUnary, api.NodeUnary, api.NodeUnary, api.NodePre, api.NodePre}[i], at, d.unary())
		n.node.Op = []int{api.OpNeg, api.OpPlus, api.OpNot, api.OpNil, api.OpAdd, api.OpSub}[i]
		return n
	})
}

func (d *deriver) postfix() *leaf {
	e := d.wrapped(d.primary)
	for d.chance(8) {
		i := d.r.Intn(2)
		e = newLeaf(api.NodePost, d.sign([]string{"++", "--"}[i]), e)
		e.node.Op = []int{api.OpAdd, api.OpSub}[i]
	}
	return e
}

func (d *deriver) primary() *leaf {
	if d.left <= 0 || d.r.Intn(2) == 0 {
		t := api.Token{Kind: api.TokNum, Num: d.r.Uint32(), Unsigned: d.r.Intn(2) == 0}
		n := newLeaf(api.NodeNum, d.token(t))
		n.node.Num, n.node.Type = int(t.Num), api.TypeInt
		if t.Unsigned {
			n.node.Type = api.TypeUnsigned
		}
		return n
	}
	if d.r.Intn(5) == 0 {
		return d.bracketed()
	}
	name, at := d.name()
	n := newLeaf(api.NodeName, at)
	n.node.Name = name
	switch d.r.Intn(5) {
	case 0:
		d.sign("[")
		n.node.Kind = api.NodeIndex
		n.kids = append(n.kids, d.expr())
		d.sign("]")
	case 1:
		d.sign("(")
		n.node.Kind = api.NodeCall
		for i := range d.r.Intn(5) {
			if i > 0 {
				d.sign(",")
			}
			n.kids = append(n.kids, d.assign())
		}
		d.sign(")")
	}
	return n
}

// flat are the nodes in the order of a tree.
func flat(x *leaf, all []api.Node) []api.Node {
	n := x.node
	for _, k := range x.kids {
		all = flat(k, all)
		n.Kids = append(n.Kids, len(all)-1)
	}
	return append(all, n)
}

func TestDerivedTrees(t *testing.T) {
	r := rand.New(rand.NewSource(4))
	for i := range 6000 {
		d := derive(r, nil, 20+i%200)
		if len(d.tokens) > 4000 {
			continue
		}
		tree, at, e := parse.Parse(d.tokens)
		if want := flat(d.tree, nil); e != api.OK || at != 0 || !sameNodes(tree.Nodes, want) {
			t.Fatalf("P2.1: %v: %d at %d\ngot  %+v\nwant %+v", asWords(d.tokens), e, at, tree.Nodes, want)
		}
		if len(tree.Nodes) > 2*len(d.tokens) {
			t.Fatalf("P2.2: %v: %d nodes of %d tokens", asWords(d.tokens), len(tree.Nodes), len(d.tokens))
		}
	}
}

// TestMoreBrackets holds P2.2: brackets around expressions change nothing but places.
func TestMoreBrackets(t *testing.T) {
	added := 0
	for seed := range int64(1500) {
		plain := derive(rand.New(rand.NewSource(seed)), nil, 60)
		more := derive(rand.New(rand.NewSource(seed)), rand.New(rand.NewSource(-1-seed)), 60)
		if len(more.tokens) > 4000 {
			continue
		}
		added += len(more.tokens) - len(plain.tokens)
		a, _, e := parse.Parse(plain.tokens)
		b, _, f := parse.Parse(more.tokens)
		for _, nodes := range [][]api.Node{a.Nodes, b.Nodes} {
			for i := range nodes {
				nodes[i].At = 0
			}
		}
		if e != api.OK || f != api.OK || !sameNodes(a.Nodes, b.Nodes) {
			t.Fatalf("P2.2: %v and %v: %d, %d", asWords(plain.tokens), asWords(more.tokens), e, f)
		}
	}
	if added < 10000 {
		t.Errorf("only %d brackets were added", added)
	}
}
