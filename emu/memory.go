package emu

import "switchback/api"

// pageWords is how many words of the memory are laid at once, when the first of them is stored into: most runs need few of them.
const pageWords = 1 << 12

type page [pageWords]uint32

// memory is the machine's: pages that were not laid hold noughts.
type memory [api.MemWords / pageWords]*page

func newMemory(data []uint32) *memory {
	m := new(memory)
	for n := 0; len(data) > 0; n++ {
		m[n] = new(page)
		data = data[copy(m[n][:], data):]
	}
	return m
}

// load is the word at a place, if there is one.
func (m *memory) load(at uint32) uint32 {
	if at >= api.MemWords {
		panic(trap(api.TrapMem))
	}
	if p := m[at/pageWords]; p != nil {
		return p[at%pageWords]
	}
	return 0
}

func (m *memory) store(at, w uint32) {
	if at >= api.MemWords {
		panic(trap(api.TrapMem))
	}
	p := &m[at/pageWords]
	if *p == nil {
		*p = new(page)
	}
	(*p)[at%pageWords] = w
}
