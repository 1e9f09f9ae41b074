package fold

import (
	"slices"

	"switchback/api"
	"switchback/temps"
)

// uses tells who uses and who sets the temps of a graph.
type uses struct {
	// often is how often a temp is used, but by what sets it and nothing else.
	often []int
	// setters are the instructions that do nothing but set a temp.
	setters [][]*api.Ins
}

// leaveOut leaves out what only sets temps that nobody uses; and so on with those that nobody uses then.
func leaveOut(g *api.Graph) {
	u := usesOf(g)
	var idle []int
	for t, n := range u.often {
		if n == 0 {
			idle = append(idle, t)
		}
	}
	for len(idle) > 0 {
		t := idle[len(idle)-1]
		idle = idle[:len(idle)-1]
		for _, i := range u.setters[t] {
			idle = append(idle, u.less(i)...)
			i.Op = 0
		}
	}
	for i := range g.Blocks {
		b := &g.Blocks[i]
		b.Code = slices.DeleteFunc(b.Code, func(i api.Ins) bool { return i.Op == 0 })
	}
}

func usesOf(g *api.Graph) uses {
	u := uses{make([]int, g.Temps), make([][]*api.Ins, g.Temps)}
	for k := range g.Blocks {
		b := &g.Blocks[k]
		for n := range b.Code {
			i := &b.Code[n]
			for t := range temps.Used(i) {
				if !keeps(i, *t) {
					u.often[*t]++
				}
			}
			if temps.OnlySets(i.Op) {
				u.setters[i.D] = append(u.setters[i.D], i)
			}
		}
		for t := range temps.UsedByEnd(&b.End) {
			u.often[*t]++
		}
	}
	return u
}

// less counts the uses of an instruction no more, and tells the temps that nobody uses then.
func (u *uses) less(i *api.Ins) []int {
	var idle []int
	for t := range temps.Used(i) {
		if keeps(i, *t) {
			continue
		}
		if u.often[*t]--; u.often[*t] == 0 {
			idle = append(idle, *t)
		}
	}
	return idle
}

// keeps tells whether an instruction uses a temp for nothing but to set the same one.
func keeps(i *api.Ins, t int) bool {
	return temps.OnlySets(i.Op) && i.D == t
}
