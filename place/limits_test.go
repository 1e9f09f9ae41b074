package place_test

import (
	"math/rand"
	"testing"

	"switchback/api"
)

const (
	most = api.MaxBlocks
	last = most - 1
)

// great is a graph of as many blocks as there may be. What is told of each that is no block is left out.
func great(next func(b int) []int) api.Graph {
	l := make([][]int, most)
	for b := range l {
		for _, to := range next(b) {
			if to >= 0 && to < most {
				l[b] = append(l[b], to)
			}
		}
	}
	return of(l...)
}

func same(b int) int { return b }

// turn numbers the blocks but the block 0 the other way round.
func turn(b int) int {
	return (most - b) % most
}

// backwards is the same by the other numbers.
func backwards(next func(b int) []int) func(b int) []int {
	return func(b int) []int {
		l := next(turn(b))
		for i := range l {
			if l[i] >= 0 && l[i] < most {
				l[i] = turn(l[i])
			}
		}
		return l
	}
}

func row(b int) []int { return []int{b + 1} }

// ring leads from the last block to the block 1 again.
func ring(b int) []int { return []int{b%last + 1} }

// pairs are rings of two blocks each; none of them is reached.
func pairs(b int) []int {
	if b == 0 {
		return nil
	}
	return []int{(b - 1) ^ 1 + 1}
}

// apartFrom has all blocks but the block 0 as told, and the block 0 return.
func apartFrom(next func(b int) []int) func(b int) []int {
	return func(b int) []int {
		if b == 0 {
			return nil
		}
		return next(b)
	}
}

// TestAsManyBlocksAsMayBe has great graphs, and of some of them the order that there must be: which block stands at each place.
func TestAsManyBlocksAsMayBe(t *testing.T) {
	all := func(b int) []int {
		var l []int
		for to := range most {
			if b == 0 {
				l = append(l, to)
			}
		}
		return l
	}
	for name, x := range map[string]struct {
		next func(b int) []int
		at   func(i int) int
	}{
		"a row":                       {row, same},
		"a row backwards":             {backwards(row), turn},
		"a ring with the block 0":     {func(b int) []int { return []int{(b + 1) % most} }, same},
		"a ring behind the block 0":   {ring, nil},
		"a ring not reached":          {apartFrom(ring), nil},
		"a ring not reached, turned":  {backwards(apartFrom(ring)), nil},
		"a row not reached":           {apartFrom(row), nil},
		"rings of two":                {pairs, nil},
		"each to itself":              {func(b int) []int { return []int{b} }, nil},
		"each to itself, too":         {func(b int) []int { return []int{b, b + 1} }, nil},
		"all to the block 0":          {func(b int) []int { return []int{0} }, nil},
		"all to the block 1":          {func(b int) []int { return []int{1} }, nil},
		"a tree":                      {func(b int) []int { return []int{2*b + 1, 2*b + 2} }, nil},
		"a tree backwards":            {backwards(func(b int) []int { return []int{2*b + 1, 2*b + 2} }), nil},
		"each back to the block 0":    {func(b int) []int { return []int{b + 1, 0} }, nil},
		"each over one":               {func(b int) []int { return []int{b + 1, b + 2} }, nil},
		"each over one, backwards":    {backwards(func(b int) []int { return []int{b + 2, b + 1} }), nil},
		"back by half":                {func(b int) []int { return []int{b / 2, b + 1} }, nil},
		"one to all":                  {all, nil},
		"one to all, backwards":       {backwards(all), nil},
		"one to all, and each to one": {func(b int) []int { return append(all(b), b+1) }, nil},
		"not reducible":               {func(b int) []int { return []int{b + 1, b + 2, b - 1} }, nil},
	} {
		t.Run(name, func(t *testing.T) {
			t.Parallel()
			g := great(x.next)
			order := placed(t, g)
			for i, b := range order {
				if x.at != nil && b != x.at(i) {
					t.Fatalf("at %d stands %d, want %d", i, b, x.at(i))
				}
			}
			r := laid(t, g, order)
			around(t, g, r, order)
			laid(t, g, anyOrder(rand.New(rand.NewSource(1)), most))
		})
	}
}
