package relax

// settle does rounds until one makes no branch long, and tells how many they were.
func settle(parts []part) int {
	long := measure(parts)
	rounds := 1
round:
	if len(long) == 0 {
		return rounds
	}
	// Each round looks just about what the one ahead made long: so however many they are, all of them together take time by the list's length.
	long = spread(parts, long)
	rounds++
	goto round
}

// measure works out the displacements of branches that are all short, and tells those that may not be.
func measure(parts []part) []int {
	starts := startsOf(parts)
	var far []int
	for i := range parts {
		p := &parts[i]
		if p.more == 0 {
			continue
		}
		p.reach = starts[p.to] - starts[i+1]
		if !near(p.reach) {
			far = append(far, i)
		}
	}
	return far
}

// spread tells which branches cannot stay short now that others are long: such as go over one of these. A branch that is short yet goes over no more parts than words.
func spread(parts []part, long []int) []int {
	var far []int
	for _, l := range long {
		for i := max(0, l-mostForward); i < min(len(parts), l-mostBack); i++ {
			p := &parts[i]
			was := near(p.reach)
			p.reach += p.pushed(i, l) * parts[l].more
			if was && !near(p.reach) {
				far = append(far, i)
			}
		}
	}
	return far
}

// pushed tells to which side a branch, the part i, is led farther by what a part makes more: -1, 1, or 0 if it does not go over it.
func (p *part) pushed(i, other int) int {
	switch {
	case p.more == 0:
		return 0
	case i < other && other < p.to:
		return 1
	case p.to <= other && other <= i:
		return -1
	}
	return 0
}
