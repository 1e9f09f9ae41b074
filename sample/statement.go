package sample

import (
	"slices"
	"strconv"
)

// statement writes a statement, with statements nested in it at most so deep.
func (m *maker) statement(depth int) {
	m.targets()
	if depth == 0 || m.full() {
		m.short()
		return
	}
	switch m.below(14) {
	case 0, 1:
		m.ifStatement(depth - 1)
	case 2:
		m.whileStatement(depth - 1)
	case 3:
		m.doStatement(depth - 1)
	case 4:
		m.forStatement(depth - 1)
	case 5, 6:
		m.switchStatement(depth - 1)
	case 7:
		m.block(depth - 1)
	case 8:
		m.gotoStatement()
	case 9:
		m.declaration()
	default:
		m.short()
	}
}

// targets writes labels, cases and a default, where one may stand.
func (m *maker) targets() {
	if m.body.labels < 3 && m.one(8) {
		m.label()
	}
	for m.inSwitch() && m.one(2) {
		m.caseTarget()
	}
}

func (m *maker) label() {
	m.put(numbered("l", m.body.labels), ":")
	m.body.labels++
	m.body.gotos = max(m.body.gotos, m.body.labels)
}

func (m *maker) inSwitch() bool {
	return len(m.body.switches) > 0
}

func (m *maker) caseTarget() {
	s := &m.body.switches[len(m.body.switches)-1]
	if m.one(5) && !s.other {
		s.other = true
		m.put("default:")
		return
	}
	value := m.below(12) - 1
	if slices.Contains(s.values, value) {
		return
	}
	s.values = append(s.values, value)
	m.put("case ")
	for _, e := range m.entries {
		if e.value == value {
			m.put(e.name, ":")
			return
		}
	}
	m.put(strconv.Itoa(value), ":")
}

// short writes a statement without others in it.
func (m *maker) short() {
	switch m.below(12) {
	case 0:
		m.leap()
	case 1:
		m.put(";")
	case 2, 3:
		m.put("putc(")
		m.expr(2)
		m.put(");")
	case 4:
		m.call(m.anyFunction())
		m.put(";")
	case 5:
		m.declaration()
	default:
		m.change(2)
		m.put(";")
	}
	m.put("\n")
}

// leap leaves a loop, a switch or the function.
func (m *maker) leap() {
	switch {
	case m.body.loops > 0 && m.one(2):
		m.put("continue;")
	case m.body.loops > 0 || m.inSwitch():
		m.put("break;")
	case m.one(9):
		m.put("exit(")
		m.expr(1)
		m.put(");")
	case m.one(3) && m.body.fn.typ == "void":
		m.put("return;")
	case m.one(3) && m.body.fn.typ != "void":
		m.put("return ")
		m.expr(2)
		m.put(";")
	default:
		m.gotoStatement()
	}
}

// gotoStatement goes to a label that stands somewhere, or will: mostly not for ever.
func (m *maker) gotoStatement() {
	target := m.below(3)
	m.body.gotos = max(m.body.gotos, target+1)
	if !m.one(8) {
		m.put("if(g0++<", strconv.Itoa(3+m.below(20)), ")")
	}
	m.put("goto ", numbered("l", target), ";\n")
}

func (m *maker) block(depth int) {
	outer := m.open()
	m.put("{\n")
	for range m.below(5) {
		m.statement(depth)
	}
	m.put("}\n")
	m.close(outer)
}

func (m *maker) ifStatement(depth int) {
	m.put("if(")
	m.expr(2)
	m.put(")")
	// A block keeps an else from going to an if within.
	m.block(depth)
	if m.one(2) {
		m.put("else ")
		m.statement(depth)
	}
}

// ends is a condition of a loop that mostly is not true for long.
func (m *maker) ends() {
	if m.one(4) {
		m.expr(2)
		return
	}
	m.scalar()
	m.pick("++<", "--%", "++%", "++%")
	m.put(strconv.Itoa(2 + m.below(6)))
}

func (m *maker) whileStatement(depth int) {
	m.put("while(")
	m.ends()
	m.put(")")
	m.loop(depth)
}

// loop writes what is done over and over.
func (m *maker) loop(depth int) {
	m.body.loops++
	if m.one(3) {
		m.statement(depth)
	} else {
		m.block(depth)
	}
	m.body.loops--
}

func (m *maker) doStatement(depth int) {
	m.put("do ")
	m.loop(depth)
	m.put("while(")
	m.ends()
	m.put(");\n")
}

func (m *maker) forStatement(depth int) {
	outer := m.open()
	m.put("for(")
	switch m.below(4) {
	case 0:
		m.put(";")
	case 1:
		m.change(1)
		m.put(";")
	default:
		m.declaration()
	}
	if !m.one(9) {
		m.ends()
	}
	m.put(";")
	if !m.one(3) {
		m.change(1)
	}
	m.put(")")
	m.loop(depth)
	m.close(outer)
}

func (m *maker) switchStatement(depth int) {
	m.put("switch(")
	m.expr(1)
	m.pick("", "&7", "%4", "&3")
	m.put(")")
	m.body.switches = append(m.body.switches, choices{})
	m.caseTarget()
	if m.one(5) {
		m.statement(depth)
	} else {
		m.block(depth)
	}
	m.body.switches = m.body.switches[:len(m.body.switches)-1]
}

// declaration declares a variable, if there is a name for it.
func (m *maker) declaration() {
	v := variable{numbered("v", m.below(5)), m.typeOf("int", "unsigned", "char"), 0}
	for _, ahead := range m.vars[m.scope:] {
		if ahead.name == v.name {
			m.put(";")
			return
		}
	}
	m.put(v.typ, " ", v.name)
	switch m.below(4) {
	case 0:
		v.size = 1 + m.below(4)
		m.put("[", strconv.Itoa(v.size), "]")
	case 1:
	default:
		m.put("=")
		m.expr(2)
	}
	m.put(";")
	m.vars = append(m.vars, v)
}
