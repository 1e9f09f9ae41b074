package sample

import "strconv"

// expr writes an expression that may stand anywhere, with expressions nested in it at most so deep.
func (m *maker) expr(depth int) {
	if depth == 0 || m.full() {
		m.leaf()
		return
	}
	m.put("(")
	switch m.below(12) {
	case 0:
		m.pick("-", "~", "!", "+")
		m.expr(depth - 1)
	case 1:
		m.expr(depth - 1)
		m.pick("&&", "||")
		m.expr(depth - 1)
	case 2:
		m.expr(depth - 1)
		m.put("?")
		m.expr(depth - 1)
		m.put(":")
		m.expr(depth - 1)
	case 3:
		m.change(depth - 1)
	case 4:
		m.expr(depth - 1)
		m.put(",")
		m.expr(depth - 1)
	case 5:
		m.call(m.valueFunction())
	case 6:
		m.divide(depth - 1)
	default:
		m.expr(depth - 1)
		m.pick("+", "-", "*", "<<", ">>", "&", "|", "^", "==", "!=", "<", "<=", ">", ">=")
		m.expr(depth - 1)
	}
	m.put(")")
}

// divide writes a division that mostly may be done.
func (m *maker) divide(depth int) {
	m.expr(depth)
	m.pick("/", "%")
	m.put("(")
	m.expr(depth)
	if !m.one(20) {
		m.put("|1")
	}
	m.put(")")
}

func (m *maker) leaf() {
	switch m.below(8) {
	case 0, 1:
		m.number()
	case 2:
		m.put("getc()")
	case 3:
		m.element(0)
	case 4:
		if len(m.entries) > 0 {
			m.put(m.entries[m.below(len(m.entries))].name)
			return
		}
		m.scalar()
	default:
		m.scalar()
	}
}

func (m *maker) number() {
	switch m.below(8) {
	case 0:
		m.pick("2147483647", "2147483648", "4294967295", "0x80000000u", "65536", "0777u", "255", "256")
	case 1:
		m.pick("'a'", "'\\n'", "'\\\\'", "' '")
	case 2:
		m.put(strconv.Itoa(m.below(100)), "u")
	default:
		m.put(strconv.Itoa(m.below(10)))
	}
}

// named is one of the variables that a name stands for here: arrays or scalars.
func (m *maker) named(array bool, typ string) variable {
	var found []variable
	for i, v := range m.vars {
		hidden := false
		for _, inner := range m.vars[i+1:] {
			hidden = hidden || inner.name == v.name
		}
		if !hidden && (v.size > 0) == array && (typ == "" || v.typ == typ) {
			found = append(found, v)
		}
	}
	return found[m.below(len(found))]
}

func (m *maker) scalar() {
	m.put(m.named(false, "").name)
}

// element writes an element that mostly is there.
func (m *maker) element(depth int) {
	v := m.named(true, "")
	m.put(v.name, "[")
	switch m.below(30) {
	case 0:
		m.expr(depth)
	case 1, 2, 3, 4, 5, 6:
		m.expr(depth)
		m.put("%", strconv.Itoa(v.size), "u")
	default:
		m.put(strconv.Itoa(m.below(v.size)))
	}
	m.put("]")
}

// change writes an expression that stores.
func (m *maker) change(depth int) {
	left := m.scalar
	if m.one(3) {
		left = func() { m.element(depth) }
	}
	switch m.below(6) {
	case 0:
		m.pick("++", "--")
		left()
	case 1:
		left()
		m.pick("++", "--")
	default:
		left()
		m.pick("=", "=", "=", "+=", "-=", "*=", "<<=", ">>=", "&=", "|=", "^=", "/=3|", "%=7|")
		m.expr(depth)
	}
}

func (m *maker) anyFunction() function {
	fs := append([]function{{name: "getc"}, {name: "putc", params: []variable{{typ: "int"}}}}, m.callable()...)
	return fs[m.below(len(fs))]
}

func (m *maker) valueFunction() function {
	fs := []function{{name: "getc"}}
	for _, f := range m.callable() {
		if f.typ != "void" {
			fs = append(fs, f)
		}
	}
	return fs[m.below(len(fs))]
}

// callable are mostly those functions that stand ahead: so calls mostly come to an end.
func (m *maker) callable() []function {
	for i, f := range m.funcs {
		if f.name == m.body.fn.name && !m.one(12) {
			return m.funcs[:i]
		}
	}
	return m.funcs
}

func (m *maker) call(f function) {
	m.put(f.name, "(")
	for i, p := range f.params {
		if i > 0 {
			m.put(",")
		}
		if p.size > 0 {
			m.put(m.named(true, p.typ).name)
		} else {
			m.expr(1)
		}
	}
	m.put(")")
}
