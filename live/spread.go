package live

import "switchback/temps"

// needs are what blocks need of temps, and set of them, that all stand in one word of their sets.
type needs struct {
	needed []uint64 // at each block's beginning, as far as it is found
	fresh  []uint64 // what of that is not told yet to the blocks ahead
	sets   []uint64
	ahead  [][]int
}

// needed are the temps that are needed at each block's beginning, of a graph with so many.
func (l *look) needed(all int) []temps.Set {
	n := len(l.uses)
	found := make([]temps.Set, n)
	s := &needs{make([]uint64, n), make([]uint64, n), make([]uint64, n), l.ahead}
	for w := range (all + temps.Wide - 1) / temps.Wide {
		for b := range found {
			s.needed[b], s.fresh[b], s.sets[b] = l.uses[b][w], l.uses[b][w], l.sets[b][w]
		}
		s.spread()
		for b := range found {
			found[b][w] = s.needed[b]
		}
	}
	return found
}

// spread tells what blocks need to the blocks ahead that do not set it, and so on. A block tells each temp just once: so it takes no longer than what there is to tell, whatever way control goes.
func (s *needs) spread() {
	var work []int
	for b := range s.fresh {
		if s.fresh[b] != 0 {
			work = append(work, b)
		}
	}
	for len(work) > 0 {
		var next []int
		for _, b := range work {
			next = s.tell(b, next)
		}
		work = next
	}
}

// tell tells what is fresh of a block to those ahead. Those that now have something to tell, and had nothing, come behind others.
func (s *needs) tell(b int, others []int) []int {
	news := s.fresh[b]
	s.fresh[b] = 0
	for _, a := range s.ahead[b] {
		found := news &^ s.sets[a] &^ s.needed[a]
		if found == 0 {
			continue
		}
		if s.fresh[a] == 0 {
			others = append(others, a)
		}
		s.fresh[a] |= found
		s.needed[a] |= found
	}
	return others
}
