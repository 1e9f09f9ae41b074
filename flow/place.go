package flow

import "switchback/api"

// The sorts of places.
const (
	placeOwn = iota
	placeGlobal
	placeElement
)

// place is where a word is kept: in a temp, in a scalar of the file, or in an array, at what the temp index has.
type place struct {
	sort   int
	number int
	index  int
	typ    int
}

func (b *builder) ownScalar(v int) place {
	return place{sort: placeOwn, number: b.own[v], typ: b.fn.Vars[v].Type}
}

// place finds the place of a scalar or an element. Its index stays what it is while what comes next is evaluated.
func (b *builder) place(n *api.Node, next ...int) place {
	if n.Kind == api.NodeIndex {
		index := b.lasting(b.value(n.Kids[0]), next...)
		return place{sort: placeElement, number: b.arrayOf(n), index: index, typ: b.typeOf(n)}
	}
	if n.Op == 1 {
		return b.ownScalar(n.Num)
	}
	return place{sort: placeGlobal, number: b.globals[n.Num], typ: b.typeOf(n)}
}

// typeOf is the type with which a node's variable is declared.
func (b *builder) typeOf(n *api.Node) int {
	if n.Op == 1 {
		return b.fn.Vars[n.Num].Type
	}
	return b.program.Globals[n.Num].Type
}

// arrayOf is the number that the array of a node has in the graph.
func (b *builder) arrayOf(n *api.Node) int {
	if n.Op == 1 {
		return b.own[n.Num]
	}
	number := b.globals[n.Num]
	array, there := b.arrays[number]
	if !there {
		array = b.array(api.Array{Kind: api.ArrayGlobal, N: number})
		b.arrays[number] = array
	}
	return array
}

// load is a temp with the word of a place.
func (b *builder) load(p place) int {
	if p.sort == placeOwn {
		return p.number
	}
	d := b.fresh()
	b.loadInto(p, d)
	return d
}

func (b *builder) loadInto(p place, d int) {
	switch p.sort {
	case placeOwn:
		b.move(d, p.number)
	case placeGlobal:
		b.put(api.Ins{Op: api.InsLoad, D: d, F: p.number})
	case placeElement:
		b.put(api.Ins{Op: api.InsGet, D: d, F: p.number, A: p.index})
	}
}

// room is a temp into which a word that is to be stored may be worked out: the place's own one, where it is one.
func (b *builder) room(p place) int {
	if p.sort == placeOwn {
		return p.number
	}
	return b.fresh()
}

// store stores a temp's word in a place; the place's own temp has it by now, where it is one. It tells a temp with what is there then.
func (b *builder) store(p place, t int) int {
	if p.sort == placeOwn {
		b.narrow(p.typ, t)
		return t
	}
	t = b.narrowed(p.typ, t)
	if p.sort == placeGlobal {
		b.put(api.Ins{Op: api.InsStore, F: p.number, A: t})
	} else {
		b.put(api.Ins{Op: api.InsPut, F: p.number, A: p.index, B: t})
	}
	return t
}

// narrowed is a temp with what something of a type holds of a word.
func (b *builder) narrowed(typ, t int) int {
	if typ != api.TypeChar {
		return t
	}
	d := b.fresh()
	b.put(api.Ins{Op: api.InsLow, D: d, A: t})
	return d
}

// fill stores the value of an expression in a place, and tells a temp with what is there then.
func (b *builder) fill(p place, x int) int {
	if p.sort != placeOwn {
		return b.store(p, b.value(x))
	}
	b.into(x, p.number)
	return b.store(p, p.number)
}

// assign writes a NodeAssign, and tells a temp with its value.
func (b *builder) assign(n *api.Node) int {
	left, right := n.Kids[0], n.Kids[1]
	p := b.place(b.node(left), right)
	if n.Op == 0 {
		return b.fill(p, right)
	}
	was := b.lasting(b.load(p), right)
	other := b.value(right)
	d := b.room(p)
	b.works(n.Op, b.reckons(n))(d, was, other)
	return b.store(p, d)
}

// count writes a NodePre or a NodePost, and tells a temp with the word that is there then.
func (b *builder) count(n *api.Node) int {
	p := b.place(b.node(n.Kids[0]))
	return b.step(n, p, b.load(p))
}

// countBehind does so, too, but tells a temp with the word that was there.
func (b *builder) countBehind(n *api.Node) int {
	p := b.place(b.node(n.Kids[0]))
	was := b.load(p)
	if p.sort == placeOwn {
		was = b.copied(was)
	}
	b.step(n, p, was)
	return was
}

// step stores one more or one less than a word in a place.
func (b *builder) step(n *api.Node, p place, was int) int {
	one := b.constant(1)
	d := b.room(p)
	b.works(n.Op, api.TypeInt)(d, was, one)
	return b.store(p, d)
}
