package sample

import "strconv"

func (m *maker) file() {
	m.enum()
	m.globals()
	for i := m.below(4); i > 0; i-- {
		m.funcs = append(m.funcs, m.head(numbered("f", i)))
	}
	main := function{name: "main", typ: "int"}
	for _, f := range append(m.funcs, main) {
		m.function(f)
	}
}

func (m *maker) enum() {
	if m.one(2) {
		return
	}
	m.put("enum{")
	value := 0
	for i := range 1 + m.below(3) {
		e := entry{numbered("E", i), value}
		m.put(e.name)
		if m.one(2) {
			e.value = m.below(9)
			m.put("=", strconv.Itoa(e.value))
		}
		m.put(",")
		value = e.value + 1
		m.entries = append(m.entries, e)
	}
	m.put("};\n")
}

// globals declares scalars, and an array of each type, so that whatever a call needs is there.
func (m *maker) globals() {
	for i, typ := range []string{"int", "unsigned", "char"} {
		v := variable{numbered("g", i), typ, 0}
		a := variable{numbered("b", i), typ, 1 + m.below(5)}
		m.put(typ, " ", v.name)
		if m.one(2) {
			m.put("=")
			m.number()
		}
		m.put(",", a.name, "[", strconv.Itoa(a.size), "];\n")
		m.vars = append(m.vars, v, a)
	}
}

func (m *maker) head(name string) function {
	f := function{name: name, typ: m.typeOf("int", "unsigned", "char", "void")}
	for i := range m.below(4) {
		p := variable{numbered("p", i), m.typeOf("int", "unsigned", "char"), 0}
		if m.one(3) {
			// As many elements as each array has at least: an index below that is one of all arrays that are handed over.
			p.size = 1
		}
		f.params = append(f.params, p)
	}
	return f
}

func (m *maker) typeOf(types ...string) string {
	return types[m.below(len(types))]
}

func (m *maker) function(f function) {
	m.body = body{fn: f}
	outer := m.open()
	m.put(f.typ, " ", f.name, "(")
	for i, p := range f.params {
		if i > 0 {
			m.put(",")
		}
		m.put(p.typ, " ", p.name)
		if p.size > 0 {
			m.put("[]")
		}
		m.vars = append(m.vars, p)
	}
	m.put("){\n")
	for range 2 + m.below(9) {
		m.statement(4)
	}
	for m.body.labels < m.body.gotos {
		m.label()
		m.put(";\n")
	}
	m.leave(f)
	m.put("}\n")
	m.close(outer)
}

// leave ends a function, where it is not left to what there is behind its end.
func (m *maker) leave(f function) {
	if f.typ != "void" && !m.one(6) {
		m.put("return ")
		m.expr(2)
		m.put(";\n")
	}
}

// scopes is how things stood ahead of a scope.
type scopes struct {
	scope int
	vars  int
}

func (m *maker) open() scopes {
	outer := scopes{m.scope, len(m.vars)}
	m.scope = len(m.vars)
	return outer
}

func (m *maker) close(outer scopes) {
	m.scope = outer.scope
	m.vars = m.vars[:outer.vars]
}
