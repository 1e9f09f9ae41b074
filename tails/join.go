package tails

import (
	"slices"

	"switchback/api"
	"switchback/graph"
	"switchback/targets"
)

// body is what a block is: two blocks are the same if their bodies are. That of a block that is no more is zero.
type body struct {
	code, end int
}

// tail is how a block ends: its last instruction and its end. That of a block without instructions is zero.
type tail struct {
	last, end int
}

// block is a block of the graph, or what was cut off from some.
type block struct {
	body
	exit   api.End
	from   []int // the blocks that lead to it, and some that did
	into   int   // a block that it has become one with, or itself
	place  int   // the blocks that are left stand in the order of their places
	called bool  // it is to be looked at
}

// joiner joins a graph's blocks, till nothing is left that ends alike.
type joiner struct {
	book
	blocks []block
	count  int // how many of them are left
	bodies map[body]int
	tails  map[tail]int
	work   []int
	full   []int // the blocks that end as others do, and for whose tails there was no room
	moved  bool  // whether something has changed since these were looked at
}

func newJoiner(g *api.Graph) *joiner {
	j := &joiner{book: newBook(), bodies: map[body]int{}, tails: map[tail]int{}}
	for _, b := range g.Blocks {
		j.call(j.add(j.code(b.Code), b.End))
	}
	for b := range j.blocks {
		j.leads(b)
	}
	return j
}

// add puts a block behind all others.
func (j *joiner) add(code int, exit api.End) int {
	b := len(j.blocks)
	j.blocks = append(j.blocks, block{body: body{code, j.end(&exit)}, exit: exit, into: b, place: b})
	j.count++
	return b
}

// leads keeps from where control comes to the blocks to which a block leads.
func (j *joiner) leads(b int) {
	for _, to := range graph.Next(api.Graph{Blocks: []api.Block{{End: j.blocks[b].exit}}}, 0) {
		j.blocks[to].from = append(j.blocks[to].from, b)
	}
}

// call has a block looked at.
func (j *joiner) call(b int) {
	if !j.blocks[b].called {
		j.blocks[b].called = true
		j.work = append(j.work, b)
	}
}

func (j *joiner) settle() {
	for b, is := j.next(); is; b, is = j.next() {
		j.blocks[b].called = false
		if j.blocks[b].into == b {
			j.look(b)
		}
	}
}

// next is the block to be looked at next. Those for whose tails there was no room come when there is nothing else to do: by then there may be room, or their tails may stand somewhere.
func (j *joiner) next() (int, bool) {
	if len(j.work) == 0 && j.moved {
		j.work, j.full, j.moved = j.full, nil, false
	}
	if len(j.work) == 0 {
		return 0, false
	}
	b := j.work[0]
	j.work = j.work[1:]
	return b, true
}

// look holds a block against those that were looked at.
func (j *joiner) look(b int) {
	j.renew(b)
	own := j.blocks[b].body
	if other, is := j.bodies[own]; is && other != b && j.blocks[other].body == own {
		j.unite(b, other)
		return
	}
	j.bodies[own] = b
	t := j.tailOf(b)
	if other, is := j.tails[t]; is && other != b && j.tailOf(other) == t {
		j.cut(b, other)
		return
	}
	if own.code != 0 {
		j.tails[t] = b
	}
}

// renew leads a block's end to the blocks that are left.
func (j *joiner) renew(b int) {
	own, changed := &j.blocks[b], false
	for to := range targets.Of(&own.exit) {
		if left := j.left(*to); left != *to {
			*to, changed = left, true
		}
	}
	if changed {
		own.end = j.end(&own.exit)
	}
}

// left is the block that is left of one that may have become one with others.
func (j *joiner) left(b int) int {
	for j.blocks[b].into != b {
		j.blocks[b].into = j.blocks[j.blocks[b].into].into
		b = j.blocks[b].into
	}
	return b
}

func (j *joiner) tailOf(b int) tail {
	own := j.blocks[b].body
	if own.code == 0 {
		return tail{}
	}
	last, _ := j.last(own.code)
	return tail{last, own.end}
}

// unite makes one block of two that are the same. That one is left to which more lead, so that fewer have to be looked at again.
func (j *joiner) unite(b, other int) {
	if len(j.blocks[b].from) > len(j.blocks[other].from) {
		b, other = other, b
	}
	gone, left := &j.blocks[b], &j.blocks[other]
	left.from = append(left.from, gone.from...)
	left.place = min(left.place, gone.place)
	for _, from := range gone.from {
		j.call(from)
	}
	*gone = block{into: other}
	j.count--
	j.moved = true
	j.call(other)
}

// cut cuts off from two blocks what is the same at their ends, so that it stands there once.
func (j *joiner) cut(b, other int) {
	ahead, otherAhead, shared := j.shared(j.blocks[b].code, j.blocks[other].code)
	switch {
	case otherAhead == 0:
		j.goOn(b, ahead, other)
	case ahead == 0:
		j.goOn(other, otherAhead, b)
		j.call(b)
	case j.count == api.MaxBlocks:
		j.full = append(j.full, b)
	default:
		common := j.add(shared, j.blocks[b].exit)
		j.leads(common)
		j.goOn(b, ahead, common)
		j.goOn(other, otherAhead, common)
		// It is known at once, so that no other block is made for the same tail.
		j.look(common)
	}
}

// shared tells what two codes end with alike, and what stands ahead of it in either.
func (j *joiner) shared(a, b int) (int, int, int) {
	var items []int
	for a != 0 && b != 0 {
		last, ahead := j.last(a)
		other, otherAhead := j.last(b)
		if last != other {
			break
		}
		items = append(items, last)
		a, b = ahead, otherAhead
	}
	slices.Reverse(items)
	return a, b, j.list(items)
}

// goOn leaves to a block just the code ahead of what was cut off, and leads it there.
func (j *joiner) goOn(b, code, to int) {
	own := &j.blocks[b]
	own.exit = api.End{Kind: api.EndJump, To: to}
	own.body = body{code, j.end(&own.exit)}
	j.blocks[to].from = append(j.blocks[to].from, b)
	j.moved = true
	j.call(b)
}

// result are the blocks that are left.
func (j *joiner) result() []api.Block {
	var order []int
	for b := range j.blocks {
		if j.blocks[b].into == b {
			order = append(order, b)
		}
	}
	slices.SortFunc(order, func(a, b int) int { return j.blocks[a].place - j.blocks[b].place })
	number := make([]int, len(j.blocks))
	for i, b := range order {
		number[b] = i
	}
	blocks := make([]api.Block, len(order))
	for i, b := range order {
		for to := range targets.Of(&j.blocks[b].exit) {
			*to = number[*to]
		}
		blocks[i] = api.Block{Code: j.read(j.blocks[b].code), End: j.blocks[b].exit}
	}
	return blocks
}
