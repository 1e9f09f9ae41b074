package live

import (
	"switchback/api"
	"switchback/graph"
	"switchback/temps"
)

// fits tells whether a graph is one of which it can be told what it needs.
func fits(g api.Graph) bool {
	n := len(g.Blocks)
	if n == 0 || n > api.MaxBlocks || g.Temps < 0 || g.Temps > api.MaxTemps {
		return false
	}
	for b := range g.Blocks {
		if !blockFits(&g.Blocks[b], g.Temps) {
			return false
		}
		for _, to := range graph.Next(g, b) {
			if to < 0 || to >= n {
				return false
			}
		}
	}
	return true
}

func blockFits(b *api.Block, all int) bool {
	for k := range b.Code {
		i := &b.Code[k]
		if i.Op < api.InsConst || i.Op > api.InsExit || temps.Sets(i) && !isTemp(i.D, all) {
			return false
		}
		for t := range temps.Used(i) {
			if !isTemp(*t, all) {
				return false
			}
		}
	}
	if b.End.Kind < api.EndJump || b.End.Kind > api.EndReturn {
		return false
	}
	for t := range temps.UsedByEnd(&b.End) {
		if !isTemp(*t, all) {
			return false
		}
	}
	return true
}

// isTemp tells whether a number is a temp, of so many.
func isTemp(t, all int) bool {
	return t >= 0 && t < all
}
