package loops

// nearest tells of each block the nearest one of those that are around it, but for itself; -1, where there is none.
//
// It is Lengauer's and Tarjan's way, since a graph may have so many blocks that looking at each pair of them would take too long. Blocks go by their numbers on the tour here. Entry is of each block the least one from which a way leads to it that meets none between the two but such as are greater than the block.
func nearest(w ways, t *tour) []int {
	n := len(t.order)
	into, entry, above := t.into(w), make([]int, n), make([]int, n)
	for b := range n {
		entry[b], above[b] = b, -1
	}
	least := climber(above, entry)
	near, waiting := make([]int, n), make([][]int, n)
	for b := n - 1; b > 0; b-- {
		for _, a := range into[b] {
			entry[b] = min(entry[b], entry[least(a)])
		}
		waiting[entry[b]] = append(waiting[entry[b]], b)
		up := t.number[t.from[t.order[b]]]
		above[b] = up
		for _, a := range waiting[up] {
			near[a] = least(a)
		}
		waiting[up] = nil
	}
	for b := 1; b < n; b++ {
		if entry[near[b]] < entry[b] {
			near[b] = near[near[b]]
		} else {
			near[b] = entry[b]
		}
	}
	return t.named(near)
}

// climber makes the function that looks for what is around: of a block and those above it, but for the topmost one, which of them has the least entry. What it found out is kept, and each block then hangs right below the topmost one.
func climber(above, entry []int) func(b int) int {
	best := make([]int, len(above))
	for b := range best {
		best[b] = b
	}
	var climb func(b int) int
	climb = func(b int) int {
		up := above[b]
		if up < 0 || above[up] < 0 {
			return best[b]
		}
		if other := climb(up); entry[other] < entry[best[b]] {
			best[b] = other
		}
		above[b] = above[up]
		return best[b]
	}
	return climb
}

// into are of each number the numbers of the blocks from which edges lead to it.
func (t *tour) into(w ways) [][]int {
	into := make([][]int, len(t.order))
	for number, b := range t.order {
		for _, to := range w[b] {
			into[t.number[to]] = append(into[t.number[to]], number)
		}
	}
	return into
}

// named is what near tells of the tour's numbers, told of all blocks.
func (t *tour) named(near []int) []int {
	l := make([]int, len(t.number))
	for b := range l {
		l[b] = -1
		if t.number[b] > 0 {
			l[b] = t.order[near[t.number[b]]]
		}
	}
	return l
}
