package sample

import (
	"switchback/api"
	"switchback/graph"
)

// Temps tells of an instruction, by chapter 5's table, where the temps stand that it uses, and the one that it sets: nil, if it sets none.
func Temps(i *api.Ins) (uses []*int, sets *int) {
	switch i.Op {
	case api.InsConst, api.InsLoad, api.InsGetc:
		return nil, &i.D
	case api.InsMove, api.InsNeg, api.InsNot, api.InsLow, api.InsGet:
		return []*int{&i.A}, &i.D
	case api.InsStore, api.InsPutc, api.InsExit:
		return []*int{&i.A}, nil
	case api.InsPut:
		return []*int{&i.A, &i.B}, nil
	case api.InsCall:
		for k := range i.Args {
			uses = append(uses, &i.Args[k])
		}
		if i.D != -1 {
			sets = &i.D
		}
		return uses, sets
	}
	return []*int{&i.A, &i.B}, &i.D
}

// EndTemps tells where the temps stand that an end uses.
func EndTemps(e *api.End) []*int {
	switch {
	case e.Kind == api.EndIf:
		return []*int{&e.A, &e.B}
	case e.Kind == api.EndSwitch || e.Kind == api.EndTable || e.Kind == api.EndReturn && e.A != -1:
		return []*int{&e.A}
	}
	return nil
}

// Rename gives the temps of a graph other names, wherever they stand in it.
func Rename(g *api.Graph, name func(t int) int) {
	var places []*int
	for i := range g.Params {
		places = append(places, &g.Params[i])
	}
	for b := range g.Blocks {
		for i := range g.Blocks[b].Code {
			uses, sets := Temps(&g.Blocks[b].Code[i])
			places = append(places, uses...)
			if sets != nil {
				places = append(places, sets)
			}
		}
		places = append(places, EndTemps(&g.Blocks[b].End)...)
	}
	for _, p := range places {
		*p = name(*p)
	}
}

// Needed reads chapter 13: of each block it tells ahead of which of its instructions, and whether ahead of its end, a temp is needed. It asks of all places again and again, till nothing more is found.
func Needed(g api.Graph, temp int) [][]bool {
	needed := make([][]bool, len(g.Blocks))
	for b := range needed {
		needed[b] = make([]bool, len(g.Blocks[b].Code)+1)
	}
	for changed := true; changed; {
		changed = false
		for b := len(needed) - 1; b >= 0; b-- {
			changed = neededWithin(g, needed, b, temp) || changed
		}
	}
	return needed
}

// neededWithin asks of the places of a block, and tells whether it found more.
func neededWithin(g api.Graph, needed [][]bool, b, temp int) bool {
	own, code := needed[b], g.Blocks[b].Code
	last := len(code)
	now := among(EndTemps(&g.Blocks[b].End), temp)
	for _, to := range graph.Next(g, b) {
		now = now || needed[to][0]
	}
	changed := now && !own[last]
	own[last] = now
	for at := last - 1; at >= 0; at-- {
		uses, sets := Temps(&code[at])
		now = among(uses, temp) || now && (sets == nil || *sets != temp)
		changed = changed || now && !own[at]
		own[at] = now
	}
	return changed
}

// among tells whether a temp stands at one of some places.
func among(places []*int, temp int) bool {
	for _, p := range places {
		if *p == temp {
			return true
		}
	}
	return false
}
