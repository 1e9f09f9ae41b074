package place

import (
	"switchback/api"
	"switchback/targets"
)

// none stands where there is no block.
const none = -1

// rows tell of each block the one that is to stand directly behind it, and the one directly ahead of it.
//
// Only a block to which no other one leads is put behind a block: so no two want the same one, and each block comes into just one row. A ring of them, if only of one, is not reached: nothing leads into it, and the block 0 is behind none.
type rows struct {
	behind, ahead []int
}

func rowsOf(g api.Graph, leading []int) rows {
	n := len(g.Blocks)
	r := rows{make([]int, n), make([]int, n)}
	for b := range n {
		r.behind[b], r.ahead[b] = none, none
	}
	for b := range n {
		if own := ledAlone(g, leading, b); own != none {
			r.behind[b], r.ahead[own] = own, b
		}
	}
	return r
}

// ledAlone is the first one of a block's targets, but for the block 0, to which no other block leads.
func ledAlone(g api.Graph, leading []int, b int) int {
	for to := range targets.Of(&g.Blocks[b].End) {
		if *to != 0 && leading[*to] == 1 {
			return *to
		}
	}
	return none
}

// seat is where a block stands: the first block of its row, and how many of the row are ahead of it.
type seat struct {
	first, at int
}

func seatsOf(r rows) []seat {
	seats := make([]seat, len(r.behind))
	for b := range seats {
		seats[b].first = none
	}
	for b, ahead := range r.ahead {
		if ahead == none {
			r.lay(seats, b)
		}
	}
	// What has no seat yet stands in rings: such a row begins at its least block.
	for b := range seats {
		r.lay(seats, b)
	}
	return seats
}

// lay seats a block and those behind it in its row.
func (r rows) lay(seats []seat, first int) {
	for b, at := first, 0; b != none && seats[b].first == none; b, at = r.behind[b], at+1 {
		seats[b] = seat{first, at}
	}
}
