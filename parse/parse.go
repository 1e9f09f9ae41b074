// Package parse is layer 2, trees: see shared/doc/02-parse.md.
package parse

import (
	"strings"

	"switchback/api"
)

// Parse makes a tree of tokens.
func Parse(l []api.Token) (tree api.Tree, at int, e api.Errno) {
	if !endsOnce(l) {
		return api.Tree{}, 0, api.ErrArg
	}
	defer func() {
		if thrown := recover(); thrown != nil {
			tree, at, e = api.Tree{}, placeOf(thrown), api.ErrParseToken
		}
	}()
	p := parser{tokens: l}
	p.file()
	return api.Tree{Nodes: p.nodes}, 0, api.OK
}

// endsOnce tells whether a list has a length that is allowed, and its one end at its end.
func endsOnce(l []api.Token) bool {
	if len(l) == 0 || len(l) > api.MaxTokens {
		return false
	}
	for i, t := range l {
		if (t.Kind == api.TokEnd) != (i == len(l)-1) {
			return false
		}
	}
	return true
}

// misplaced is what is thrown at a token that cannot stand where it stands.
type misplaced struct {
	at int
}

// placeOf tells the place of the token for which something was thrown; what the parser has not thrown goes on.
func placeOf(thrown any) int {
	if m, ok := thrown.(misplaced); ok {
		return m.at
	}
	panic(thrown)
}

// parser goes through tokens, and writes nodes. The end is never taken, so there is always a token that is next.
type parser struct {
	tokens []api.Token
	next   int
	nodes  []api.Node
}

// fail throws the token that is next.
func (p *parser) fail() {
	panic(misplaced{p.tokens[p.next].At})
}

// peek is the token that is next.
func (p *parser) peek() api.Token {
	return p.tokens[p.next]
}

// take is the token that is next, and goes past it.
func (p *parser) take() api.Token {
	t := p.tokens[p.next]
	p.next++
	return t
}

// sees tells whether such a token is next.
func (p *parser) sees(kind int, text string) bool {
	return is(p.peek(), kind, text)
}

// accept goes past such a token, if it is next.
func (p *parser) accept(kind int, text string) bool {
	if !p.sees(kind, text) {
		return false
	}
	p.next++
	return true
}

// sign goes past a sign that has to be next.
func (p *parser) sign(text string) {
	if !p.accept(api.TokSign, text) {
		p.fail()
	}
}

// word goes past a word that has to be next.
func (p *parser) word(text string) {
	if !p.accept(api.TokWord, text) {
		p.fail()
	}
}

// name goes past a name that has to be next; its text is a copy, so that the tree keeps nothing of the tokens.
func (p *parser) name() (string, int) {
	if p.peek().Kind != api.TokName {
		p.fail()
	}
	t := p.take()
	return strings.Clone(t.Text), t.At
}

// add writes a node, and tells its number.
func (p *parser) add(n api.Node) int {
	p.nodes = append(p.nodes, n)
	return len(p.nodes) - 1
}

func is(t api.Token, kind int, text string) bool {
	return t.Kind == kind && t.Text == text
}

// typeOf tells which type a token names.
func typeOf(t api.Token) (int, bool) {
	if t.Kind != api.TokWord {
		return 0, false
	}
	switch t.Text {
	case "void":
		return api.TypeVoid, true
	case "int":
		return api.TypeInt, true
	case "unsigned":
		return api.TypeUnsigned, true
	case "char":
		return api.TypeChar, true
	}
	return 0, false
}

// typeWord goes past a type that has to be next.
func (p *parser) typeWord() (int, int) {
	typ, ok := typeOf(p.peek())
	if !ok {
		p.fail()
	}
	return typ, p.take().At
}
