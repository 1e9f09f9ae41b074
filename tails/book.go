package tails

import (
	"slices"

	"switchback/api"
)

// numbering gives each thing a number of its own, from 1 on: the same one whenever it comes.
type numbering[T comparable] struct {
	numbers map[T]int
	things  []T
}

func newNumbering[T comparable]() numbering[T] {
	return numbering[T]{map[T]int{}, make([]T, 1)}
}

func (n *numbering[T]) of(thing T) int {
	if number, is := n.numbers[thing]; is {
		return number
	}
	n.numbers[thing] = len(n.things)
	n.things = append(n.things, thing)
	return len(n.things) - 1
}

// cell is the last item of a list, behind the list ahead of it. A list goes by the number of its last cell; 0 is the empty one.
type cell struct {
	ahead int
	n     uint32
	item  int
}

// instruction is an api.Ins, its lists by their numbers.
type instruction struct {
	op, d, a, b, f int
	n              uint32
	args, arrs     int
}

// ending is an api.End, its list by its number.
type ending struct {
	kind, op, a, b int
	n              uint32
	to, other      int
	list           int
}

// book numbers what blocks are made of, so that it can be held against other such things at once.
type book struct {
	cells        numbering[cell]
	instructions numbering[instruction]
	endings      numbering[ending]
	written      []api.Ins // the instructions by their numbers
}

func newBook() book {
	return book{newNumbering[cell](), newNumbering[instruction](), newNumbering[ending](), make([]api.Ins, 1)}
}

func (k *book) list(items []int) int {
	list := 0
	for _, item := range items {
		list = k.cells.of(cell{ahead: list, item: item})
	}
	return list
}

func (k *book) cases(cases []api.Case) int {
	list := 0
	for _, c := range cases {
		list = k.cells.of(cell{list, c.N, c.To})
	}
	return list
}

func (k *book) ins(i api.Ins) int {
	number := k.instructions.of(instruction{i.Op, i.D, i.A, i.B, i.F, i.N, k.list(i.Args), k.list(i.Arrs)})
	if number == len(k.written) {
		k.written = append(k.written, i)
	}
	return number
}

func (k *book) code(code []api.Ins) int {
	list := 0
	for _, i := range code {
		list = k.cells.of(cell{ahead: list, item: k.ins(i)})
	}
	return list
}

func (k *book) end(e *api.End) int {
	list := k.list(e.Targets)
	if e.Kind == api.EndSwitch {
		list = k.cases(e.Cases)
	}
	return k.endings.of(ending{e.Kind, e.Op, e.A, e.B, e.N, e.To, e.Else, list})
}

// last is the last instruction of a code, and the code ahead of it.
func (k *book) last(code int) (int, int) {
	c := k.cells.things[code]
	return c.item, c.ahead
}

// read is a code as instructions, in memory of their own.
func (k *book) read(code int) []api.Ins {
	var l []api.Ins
	for code != 0 {
		number, ahead := k.last(code)
		i := k.written[number]
		i.Args, i.Arrs = slices.Clone(i.Args), slices.Clone(i.Arrs)
		l = append(l, i)
		code = ahead
	}
	slices.Reverse(l)
	return l
}
