package loops_test

import (
	"testing"

	"switchback/api"
	"switchback/loops"
)

const (
	most = api.MaxBlocks
	last = most - 1
)

// great is a graph of as many blocks as there may be. What is told of each that is no block is left out.
func great(next func(b int) []int) api.Graph {
	l := make([][]int, most)
	for b := range l {
		for _, to := range next(b) {
			if to >= 0 && to < most {
				l[b] = append(l[b], to)
			}
		}
	}
	return of(l...)
}

// one is the block ahead, and zero the block 0, but for the block 0 itself.
func one(b int) int { return b - 1 }

func zero(b int) int { return min(b, 1) - 1 }

// all are all blocks, behind the block 0 alone.
func all(b int) []int {
	var l []int
	for to := range most {
		if b == 0 {
			l = append(l, to)
		}
	}
	return l
}

// rows are two rows of blocks that begin behind the block 0: the odd ones and the others.
func rows(b int) []int {
	if b == 0 {
		return []int{1, 2}
	}
	return []int{b + 2}
}

// backwards goes from the block 0 to the last one, and from there down to the block 1.
func backwards(b int) []int {
	switch b {
	case 0:
		return []int{last}
	case 1:
		return nil
	}
	return []int{b - 1}
}

// meeting are the two rows, and the last one of the one goes on to the last one of the other.
func meeting(b int) []int {
	if b == last-1 {
		return []int{last}
	}
	return rows(b)
}

// bothEnds is a row in which control may go either way, entered at both ends.
func bothEnds(b int) []int {
	if b == 0 {
		return []int{1, last}
	}
	return []int{b - 1, b + 1}
}

func forty(b int) []int {
	l := make([]int, 40)
	for i := range l {
		l[i] = b + 1 + i
	}
	return l
}

// next is the block behind, or at the last one the block 0.
func next(b int) int {
	if b == 0 {
		return -1
	}
	return (b + 1) % most
}

// two is the block ahead in one of two rows.
func two(b int) int { return max(b-2, zero(b)) }

func twoMeet(b int) int {
	if b == last {
		return 0
	}
	return two(b)
}

// TestAsManyBlocksAsMayBe has great graphs; of each block the nearest one around it, how many back edges there are, and whether the graph is reducible.
func TestAsManyBlocksAsMayBe(t *testing.T) {
	for name, x := range map[string]struct {
		next      func(b int) []int
		near      func(b int) int
		back      int
		reducible bool
	}{
		"one way":                  {func(b int) []int { return []int{b + 1} }, one, 0, true},
		"one way backwards":        {backwards, next, 0, true},
		"one ring":                 {func(b int) []int { return []int{(b + 1) % most} }, one, 1, true},
		"each to itself":           {func(b int) []int { return []int{b, b + 1} }, one, most, true},
		"each back to the block 0": {func(b int) []int { return []int{b + 1, 0} }, one, most, true},
		"each back by one":         {func(b int) []int { return []int{b + 1, b - 1} }, one, last, true},
		"each back by half":        {func(b int) []int { return []int{b + 1, b / 2} }, one, most, true},
		"over one":                 {func(b int) []int { return []int{b + 1, b + 2} }, zero, 0, true},
		"over one, back by one":    {func(b int) []int { return []int{b + 1, b + 2, b - 1} }, zero, 1, false},
		"over one, back to 0":      {func(b int) []int { return []int{b + 1, b + 2, 0} }, zero, most, true},
		"entered at both ends":     {bothEnds, zero, 1, false},
		"one to all":               {all, zero, 1, true},
		"one to all, in a row":     {func(b int) []int { return append(all(b), b+1) }, zero, 1, true},
		"one to all, in a ring":    {func(b int) []int { return append(all(b), b%last+1) }, zero, 1, false},
		"two rows":                 {rows, two, 0, true},
		"two rows that meet":       {meeting, twoMeet, 0, true},
		"forty each":               {forty, zero, 0, true},
		"not reached":              {func(b int) []int { return []int{0, b} }, func(int) int { return -1 }, 1, true},
	} {
		t.Run(name, func(t *testing.T) {
			t.Parallel()
			g := great(x.next)
			near := loops.Dominators(g)
			if len(near) != most {
				t.Fatalf("of %d blocks is told", len(near))
			}
			for b, a := range near {
				if a != x.near(b) {
					t.Fatalf("%d is the nearest one of %d, want %d", a, b, x.near(b))
				}
			}
			if n := len(loops.Back(g)); n != x.back {
				t.Errorf("%d back edges", n)
			}
			if loops.Reducible(g) != x.reducible {
				t.Errorf("Reducible is not %v", x.reducible)
			}
		})
	}
}
