package switches

import (
	"cmp"
	"slices"

	"switchback/api"
)

// Plan tells in which pieces the cases of a switch are laid: the first and the last one of each, as they stand when they are sorted.
func Plan(l []api.Case) [][2]int {
	l = sorted(l)
	for i := 1; i < len(l); i++ {
		if l[i].N == l[i-1].N {
			return nil
		}
	}
	var plan [][2]int
	for first := 0; first < len(l); {
		last := longest(l, first)
		plan = append(plan, [2]int{first, last})
		first = last + 1
	}
	return plan
}

func sorted(l []api.Case) []api.Case {
	own := slices.Clone(l)
	slices.SortFunc(own, func(a, b api.Case) int { return cmp.Compare(a.N, b.N) })
	return own
}

// longest is the last case of the piece that begins with a case.
func longest(l []api.Case, first int) int {
	last := first
	for i := first + api.MinTable - 1; i < len(l); i++ {
		// The stretch over all words is no word itself: so 1 is added only where it is known to be short.
		apart := l[i].N - l[first].N
		if apart >= api.MaxTable {
			break
		}
		if cases := i - first + 1; cases*100 >= (int(apart)+1)*api.Density {
			last = i
		}
	}
	return last
}
