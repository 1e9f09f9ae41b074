package sample

import "switchback/api"

// Shared tells whether two lists of some modules, or two that stand in one of them, share memory, their spare room with it.
func Shared(modules ...api.Module) bool {
	p := places{map[*uint32]int{}, map[*int]int{}, map[*api.Graph]int{}, map[*api.Array]int{}, map[*api.Block]int{}, map[*api.Ins]int{}, map[*api.Case]int{}}
	for _, m := range modules {
		if !p.take(m) {
			return true
		}
	}
	return false
}

// Apart tells whether no two of some lists share memory, their spare room with it.
func Apart[T any](lists ...[]T) bool {
	taken := map[*T]int{}
	for _, l := range lists {
		if !free(taken, l) {
			return false
		}
	}
	return true
}

// places are the places in memory at which an item of a list stands.
type places struct {
	words   map[*uint32]int
	numbers map[*int]int
	graphs  map[*api.Graph]int
	arrays  map[*api.Array]int
	blocks  map[*api.Block]int
	code    map[*api.Ins]int
	cases   map[*api.Case]int
}

func (p *places) take(m api.Module) bool {
	own := free(p.words, m.Globals) && free(p.numbers, m.Arrays) && free(p.graphs, m.Funcs)
	for _, g := range m.Funcs {
		own = own && free(p.numbers, g.Params) && free(p.arrays, g.Arrays) && free(p.blocks, g.Blocks)
		for _, b := range g.Blocks {
			own = own && free(p.code, b.Code) && free(p.cases, b.End.Cases) && free(p.numbers, b.End.Targets)
			for _, i := range b.Code {
				own = own && free(p.numbers, i.Args) && free(p.numbers, i.Arrs)
			}
		}
	}
	return own
}

// free tells whether nothing stands yet where a list does, and takes these places.
func free[T any](taken map[*T]int, l []T) bool {
	l = l[:cap(l)]
	for i := range l {
		if taken[&l[i]]++; taken[&l[i]] > 1 {
			return false
		}
	}
	return true
}
