package alloc

import (
	"switchback/api"
	"switchback/graph"
	"switchback/live"
	"switchback/temps"
)

// meetings are, for each temp of a graph, those that it meets.
type meetings []temps.Set

func meetingsOf(g *api.Graph) meetings {
	m := make(meetings, g.Temps)
	needed := beginnings(g)
	first := needed[0]
	for _, p := range g.Params {
		first.Add(p)
	}
	for t := range first.All() {
		m.meet(t, &first)
	}
	for b := range g.Blocks {
		var behind temps.Set
		for _, to := range graph.Next(*g, b) {
			behind.Join(&needed[to])
		}
		m.block(&g.Blocks[b], &behind)
	}
	return m
}

// beginnings are the temps that are needed at the beginning of each block.
func beginnings(g *api.Graph) []temps.Set {
	lists, _ := live.Live(*g)
	needed := make([]temps.Set, len(lists))
	for b, l := range lists {
		for _, t := range l {
			needed[b].Add(t)
		}
	}
	return needed
}

// block goes through a block from its end back; needed is what is needed behind it.
func (m meetings) block(own *api.Block, needed *temps.Set) {
	for t := range temps.UsedByEnd(&own.End) {
		needed.Add(*t)
	}
	for k := len(own.Code) - 1; k >= 0; k-- {
		i := &own.Code[k]
		if temps.Sets(i) {
			m.meet(i.D, needed)
			needed.Remove(i.D)
		}
		for t := range temps.Used(i) {
			needed.Add(*t)
		}
	}
}

// meet has a temp meet all others of a set.
func (m meetings) meet(t int, others *temps.Set) {
	fresh := *others
	fresh.Remove(t)
	fresh.Leave(&m[t])
	for other := range fresh.All() {
		m[other].Add(t)
	}
	m[t].Join(&fresh)
}
