package parse

import "switchback/api"

func (p *parser) file() {
	var items []int
	for p.peek().Kind != api.TokEnd {
		items = append(items, p.item())
	}
	p.add(api.Node{Kind: api.NodeFile, Kids: items})
}

func (p *parser) item() int {
	switch {
	case p.sees(api.TokWord, "enum"):
		return p.enum()
	case p.beginsFunction():
		return p.function()
	}
	return p.decl()
}

// beginsFunction tells whether a bracket stands behind a type and a name: up to there a function is like a variable.
func (p *parser) beginsFunction() bool {
	if _, ok := typeOf(p.peek()); !ok || p.tokens[p.next+1].Kind != api.TokName {
		return false
	}
	return is(p.tokens[p.next+2], api.TokSign, "(")
}

func (p *parser) enum() int {
	at := p.take().At
	p.sign("{")
	entries := []int{p.entry()}
	for p.accept(api.TokSign, ",") && !p.sees(api.TokSign, "}") {
		entries = append(entries, p.entry())
	}
	p.sign("}")
	p.sign(";")
	return p.add(api.Node{Kind: api.NodeEnum, At: at, Kids: entries})
}

func (p *parser) entry() int {
	name, at := p.name()
	var kids []int
	if p.accept(api.TokSign, "=") {
		kids = append(kids, p.cond())
	}
	return p.add(api.Node{Kind: api.NodeItem, At: at, Name: name, Kids: kids})
}

func (p *parser) function() int {
	typ, at := p.typeWord()
	name, _ := p.name()
	p.sign("(")
	kids := p.params()
	p.sign(")")
	kids = append(kids, p.block())
	return p.add(api.Node{Kind: api.NodeFunc, At: at, Type: typ, Name: name, Kids: kids})
}

func (p *parser) params() []int {
	if p.sees(api.TokSign, ")") {
		return nil
	}
	if p.sees(api.TokWord, "void") && is(p.tokens[p.next+1], api.TokSign, ")") {
		p.take()
		return nil
	}
	params := []int{p.param()}
	for p.accept(api.TokSign, ",") {
		params = append(params, p.param())
	}
	return params
}

func (p *parser) param() int {
	typ, at := p.typeWord()
	name, _ := p.name()
	brackets := 0
	if p.accept(api.TokSign, "[") {
		p.sign("]")
		brackets = 1
	}
	return p.add(api.Node{Kind: api.NodeParam, At: at, Op: brackets, Type: typ, Name: name})
}

func (p *parser) decl() int {
	typ, at := p.typeWord()
	vars := []int{p.variable(typ)}
	for p.accept(api.TokSign, ",") {
		vars = append(vars, p.variable(typ))
	}
	p.sign(";")
	return p.add(api.Node{Kind: api.NodeDecl, At: at, Kids: vars})
}

func (p *parser) variable(typ int) int {
	name, at := p.name()
	brackets := 0
	var kids []int
	if p.accept(api.TokSign, "[") {
		kids = append(kids, p.cond())
		p.sign("]")
		brackets = 1
	}
	if p.accept(api.TokSign, "=") {
		kids = append(kids, p.assign())
	}
	return p.add(api.Node{Kind: api.NodeVar, At: at, Op: brackets, Type: typ, Name: name, Kids: kids})
}
