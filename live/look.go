package live

import (
	"switchback/api"
	"switchback/graph"
	"switchback/temps"
)

// look is what each block of a graph says alone.
type look struct {
	uses  []temps.Set // what each one uses ahead of setting it
	sets  []temps.Set // what each one sets
	ahead [][]int     // the blocks that lead to each one
}

func lookAt(g api.Graph) *look {
	n := len(g.Blocks)
	l := &look{make([]temps.Set, n), make([]temps.Set, n), make([][]int, n)}
	for b := range g.Blocks {
		l.block(b, &g.Blocks[b])
		for _, to := range graph.Next(g, b) {
			l.ahead[to] = append(l.ahead[to], b)
		}
	}
	return l
}

func (l *look) block(b int, own *api.Block) {
	for k := range own.Code {
		i := &own.Code[k]
		for t := range temps.Used(i) {
			l.use(b, *t)
		}
		if temps.Sets(i) {
			l.sets[b].Add(i.D)
		}
	}
	for t := range temps.UsedByEnd(&own.End) {
		l.use(b, *t)
	}
}

func (l *look) use(b, t int) {
	if !l.sets[b].Has(t) {
		l.uses[b].Add(t)
	}
}
