// Package sample makes sources and modules out of numbers, for tests: programs in which control goes about as C lets it, and modules in which it goes anywhere.
package sample

import "strconv"

// room is how many bytes a source has at most, but for what ends it: so it has fewer tokens than it may have.
const room = 3000

// Program is a source that lex, parse and check take; which one, the number says. Not all of them end.
func Program(number uint64) string {
	m := maker{dice: dice{number}}
	m.file()
	return string(m.text)
}

// variable is a variable that may be named: size 0 of a scalar, of an array its elements.
type variable struct {
	name string
	typ  string
	size int
}

// function is a function that may be called.
type function struct {
	name   string
	typ    string
	params []variable
}

// entry is an entry of an enum.
type entry struct {
	name  string
	value int
}

// maker writes a source.
type maker struct {
	dice
	text    []byte
	vars    []variable
	scope   int // where in vars the innermost scope begins
	funcs   []function
	entries []entry
	body    body
}

// body is what the maker knows of the function that it writes.
type body struct {
	fn       function
	loops    int
	switches []choices
	gotos    int // labels that a goto may name: all of them stand somewhere in the end
	labels   int // those of them that stand by now
}

// choices are the cases that a switch has by now.
type choices struct {
	values []int
	other  bool
}

func (m *maker) put(pieces ...string) {
	for _, p := range pieces {
		m.text = append(m.text, p...)
	}
}

// pick puts one of some pieces.
func (m *maker) pick(pieces ...string) {
	m.put(pieces[m.below(len(pieces))])
}

// full tells whether only what is short is to follow.
func (m *maker) full() bool {
	return len(m.text) > room
}

// numbered is a name with a number.
func numbered(name string, n int) string {
	return name + strconv.Itoa(n)
}
