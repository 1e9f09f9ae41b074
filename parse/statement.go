package parse

import "switchback/api"

func (p *parser) block() int {
	at := p.peek().At
	p.sign("{")
	var statements []int
	for !p.accept(api.TokSign, "}") {
		statements = append(statements, p.statement())
	}
	return p.add(api.Node{Kind: api.NodeBlock, At: at, Kids: statements})
}

func (p *parser) statement() int {
	switch {
	case p.peek().Kind == api.TokWord:
		return p.wordStatement()
	case p.sees(api.TokSign, ";"):
		return p.add(api.Node{Kind: api.NodeEmpty, At: p.take().At})
	case p.sees(api.TokSign, "{"):
		return p.block()
	case p.peek().Kind == api.TokName && is(p.tokens[p.next+1], api.TokSign, ":"):
		return p.label()
	}
	at := p.peek().At
	kid := p.expr()
	p.sign(";")
	return p.add(api.Node{Kind: api.NodeExpr, At: at, Kids: []int{kid}})
}

// wordStatement reads a statement that begins with a word: a declaration, if it is none of those by name.
func (p *parser) wordStatement() int {
	switch p.peek().Text {
	case "if":
		return p.ifStatement()
	case "while":
		return p.decided(api.NodeWhile)
	case "switch":
		return p.decided(api.NodeSwitch)
	case "do":
		return p.doStatement()
	case "for":
		return p.forStatement()
	case "break":
		return p.leave(api.NodeBreak)
	case "continue":
		return p.leave(api.NodeContinue)
	case "return":
		return p.returnStatement()
	case "goto":
		return p.gotoStatement()
	case "case":
		return p.caseStatement()
	case "default":
		return p.defaultStatement()
	}
	return p.decl()
}

func (p *parser) label() int {
	name, at := p.name()
	p.sign(":")
	kid := p.statement()
	return p.add(api.Node{Kind: api.NodeLabel, At: at, Name: name, Kids: []int{kid}})
}

// bracketed reads an expression within brackets that have to stand there.
func (p *parser) bracketed() int {
	p.sign("(")
	kid := p.expr()
	p.sign(")")
	return kid
}

func (p *parser) ifStatement() int {
	at := p.take().At
	kids := []int{p.bracketed()}
	kids = append(kids, p.statement())
	if p.accept(api.TokWord, "else") {
		kids = append(kids, p.statement())
	}
	return p.add(api.Node{Kind: api.NodeIf, At: at, Kids: kids})
}

// decided reads a word, an expression in brackets, and the statement that hangs on it.
func (p *parser) decided(kind int) int {
	at := p.take().At
	value := p.bracketed()
	body := p.statement()
	return p.add(api.Node{Kind: kind, At: at, Kids: []int{value, body}})
}

func (p *parser) doStatement() int {
	at := p.take().At
	body := p.statement()
	p.word("while")
	value := p.bracketed()
	p.sign(";")
	return p.add(api.Node{Kind: api.NodeDo, At: at, Kids: []int{body, value}})
}

func (p *parser) forStatement() int {
	at := p.take().At
	p.sign("(")
	first := p.forFirst()
	second := p.exprUpTo(";")
	third := p.exprUpTo(")")
	body := p.statement()
	return p.add(api.Node{Kind: api.NodeFor, At: at, Kids: []int{first, second, third, body}})
}

// forFirst reads what a for begins with, and the sign behind it.
func (p *parser) forFirst() int {
	if _, ok := typeOf(p.peek()); ok {
		return p.decl()
	}
	return p.exprUpTo(";")
}

// exprUpTo reads an expression, or none, and the sign behind it; that sign's place is the place of none.
func (p *parser) exprUpTo(end string) int {
	if p.sees(api.TokSign, end) {
		return p.add(api.Node{Kind: api.NodeEmpty, At: p.take().At})
	}
	kid := p.expr()
	p.sign(end)
	return kid
}

func (p *parser) leave(kind int) int {
	at := p.take().At
	p.sign(";")
	return p.add(api.Node{Kind: kind, At: at})
}

func (p *parser) returnStatement() int {
	at := p.take().At
	var kids []int
	if !p.sees(api.TokSign, ";") {
		kids = append(kids, p.expr())
	}
	p.sign(";")
	return p.add(api.Node{Kind: api.NodeReturn, At: at, Kids: kids})
}

func (p *parser) gotoStatement() int {
	at := p.take().At
	name, _ := p.name()
	p.sign(";")
	return p.add(api.Node{Kind: api.NodeGoto, At: at, Name: name})
}

func (p *parser) caseStatement() int {
	at := p.take().At
	value := p.cond()
	p.sign(":")
	kid := p.statement()
	return p.add(api.Node{Kind: api.NodeCase, At: at, Kids: []int{value, kid}})
}

func (p *parser) defaultStatement() int {
	at := p.take().At
	p.sign(":")
	kid := p.statement()
	return p.add(api.Node{Kind: api.NodeDefault, At: at, Kids: []int{kid}})
}
