package place_test

import (
	"math"
	"reflect"
	"slices"
	"testing"

	"switchback/api"
	"switchback/place"
)

// TestShapes has small graphs, and which blocks are to stand directly behind others: of the numbers of a row the first one is the block ahead, and one of the others stands behind it.
func TestShapes(t *testing.T) {
	for name, x := range map[string]struct {
		g    api.Graph
		want [][]int
	}{
		"example 1":                      {of([]int{2}, nil, []int{1}), [][]int{{0, 2}, {2, 1}}},
		"example 2":                      {of([]int{1, 2}, []int{3}, []int{3}, nil), [][]int{{0, 1, 2}}},
		"one block":                      {of(nil), nil},
		"one block to itself":            {of([]int{0}), nil},
		"one block to itself by an if":   {of([]int{0, 0}), nil},
		"one block to itself by a table": {of([]int{0, 0, 0}), nil},
		"a row":                          {of([]int{1}, []int{2}, []int{3}, nil), [][]int{{0, 1}, {1, 2}, {2, 3}}},
		"a row backwards":                {of([]int{3}, nil, []int{1}, []int{2}), [][]int{{0, 3}, {3, 2}, {2, 1}}},
		"a row that ends at the block 0": {of([]int{2}, []int{0}, []int{1}), [][]int{{0, 2}, {2, 1}}},
		"a row that ends at itself":      {of([]int{2}, []int{1}, []int{3}, nil), [][]int{{0, 2}, {2, 3}}},
		"a ring behind a row":            {of([]int{3}, []int{2}, []int{1}, []int{1}), [][]int{{0, 3}, {1, 2}}},
		"led to by a ring":               {of([]int{3}, []int{2}, []int{1, 4}, []int{2}, nil), [][]int{{0, 3}, {2, 1, 4}}},
		"the middle is led to":           {of([]int{3}, nil, []int{1}, []int{2}, []int{2}), [][]int{{0, 3}, {2, 1}}},
		"led to by one that is not met":  {of([]int{2}, []int{2}, nil), nil},
		"led to by itself":               {of([]int{2}, nil, []int{2, 1}), [][]int{{2, 1}}},
		"a row not reached":              {of(nil, []int{3}, nil, []int{2}), nil},
		"a ring not reached":             {of([]int{4}, []int{2}, []int{3}, []int{1}, nil), [][]int{{0, 4}}},
		"two rings not reached":          {of(nil, []int{2}, []int{1}, []int{4}, []int{3}, []int{5}), nil},
		"a ring led to from outside":     {of(nil, []int{2}, []int{3}, []int{1}, []int{2}), nil},
		"an if, none led to":             {of([]int{2, 1}, nil, nil), [][]int{{0, 1, 2}}},
		"an if, its first one led to":    {of([]int{2, 1}, nil, nil, []int{2}), [][]int{{0, 1, 2}}},
		"an if, its second one led to":   {of([]int{2, 1}, nil, nil, []int{1}), [][]int{{0, 1, 2}}},
		"an if, both led to":             {of([]int{2, 1}, nil, nil, []int{1, 2}), nil},
		"an if, led to each other":       {of([]int{2, 1}, []int{2}, []int{1}), nil},
		"an if, the one to the other":    {of([]int{2, 1}, []int{2}, nil), [][]int{{0, 1}}},
		"an if, the other to the one":    {of([]int{2, 1}, nil, []int{1}), [][]int{{0, 2}}},
		"an if, one to itself":           {of([]int{2, 1}, []int{1}, nil), [][]int{{0, 2}}},
		"an if to one twice":             {of([]int{2, 2}, nil, nil), nil},
		"an if to the block 0":           {of([]int{1}, []int{0, 2}, nil), [][]int{{0, 1}}},
		"an if to itself":                {of([]int{1}, []int{2, 1}, nil), nil},
		"an if and a row":                {of([]int{4, 2}, nil, nil, []int{1}, []int{3}), [][]int{{0, 2, 4}, {4, 3}, {3, 1}}},
		"ifs in a row":                   {of([]int{2, 4}, nil, []int{3, 4}, []int{4, 1}, nil), [][]int{{0, 2}, {2, 3}, {3, 1}}},
		"two ifs to the same":            {of([]int{1, 2}, []int{3, 4}, []int{3, 4}, nil, nil), [][]int{{0, 1, 2}}},
		"a table and a row":              {of([]int{3, 1, 2}, nil, []int{4}, nil, []int{1}), [][]int{{2, 4}}},
		"a switch and rows":              {of([]int{5, 1, 2, 3}, []int{4}, nil, []int{6}, nil, []int{7}, nil, []int{7}), [][]int{{1, 4}, {3, 6}}},
		"a jump and a table to one":      {of([]int{1, 2, 3}, []int{3}, []int{4}, nil, nil), [][]int{{2, 4}}},
	} {
		order := placed(t, x.g)
		behind := edges(order)
		for _, row := range x.want {
			is := 0
			for _, b := range row[1:] {
				is += behind[[2]int{row[0], b}]
			}
			if is != 1 {
				t.Errorf("%s: %d: of %d none stands behind %d", name, order, row[1:], row[0])
			}
		}
		laid(t, x.g, order)
	}
}

// TestOneTargetThatNobodyElseLeadsTo has ifs of all whose targets, but one, others lead to: that is the one that is to stand behind.
func TestOneTargetThatNobodyElseLeadsTo(t *testing.T) {
	for _, end := range []api.End{either(1, 2), either(2, 1)} {
		for alone := 1; alone <= 2; alone++ {
			g := ended(end, back(-1), back(-1), to(3-alone))
			if order := placed(t, g); order[1] != 1 && order[1] != 2 {
				t.Errorf("%d: %+v", order, g)
			}
		}
	}
}

// doNotWalk are graphs that do not walk: blocks are missing, or too many, or ends lead elsewhere, from blocks that are reached and others.
func doNotWalk() []api.Graph {
	many := of([]int{0})
	many.Blocks = append(many.Blocks, make([]api.Block, api.MaxBlocks)...)
	return []api.Graph{
		{},
		{Temps: 3, Params: []int{1}, Arrays: []api.Array{{Kind: api.ArrayParam}}},
		{Blocks: []api.Block{}},
		of([]int{1}),
		of([]int{5}, nil),
		of([]int{-1}),
		of(nil, []int{2}),
		of(nil, []int{-1}),
		ended(either(0, 1)),
		ended(either(1, 0)),
		ended(either(0, -1)),
		ended(either(-1, 0)),
		ended(back(0), either(1, 2)),
		ended(choose(2), back(0)),
		ended(choose(0, 1, 2), back(0)),
		ended(choose(0, -1, 1), back(0)),
		ended(choose(-3), back(0)),
		ended(table(2, 0), back(0)),
		ended(table(0, 0, 1, 2), back(0)),
		ended(table(0, -1, 1), back(0)),
		ended(table(0), table(1, 1, 1, 2, 1)),
		ended(to(math.MaxInt)),
		ended(either(math.MinInt, 0)),
		many,
	}
}

func TestGraphsThatDoNotWalk(t *testing.T) {
	for i, g := range doNotWalk() {
		if order, e := place.Place(g); e != api.ErrArg || len(order) != 0 {
			t.Errorf("%d: Place: %d, %d", i, order, e)
		}
		order := make([]int, len(g.Blocks))
		for b := range order {
			order[b] = b
		}
		for _, order := range [][]int{order, nil, {0}} {
			if r, e := place.Reorder(g, order); e != api.ErrArg || !reflect.DeepEqual(r, api.Graph{}) {
				t.Errorf("%d: Reorder: %s, %d", i, short(r), e)
			}
		}
	}
}

// TestWrongOrders has orders that are none, of graphs that walk.
func TestWrongOrders(t *testing.T) {
	for _, x := range []struct {
		g      api.Graph
		orders [][]int
	}{
		{of(nil), [][]int{nil, {}, {1}, {-1}, {0, 0}, {0, 1}}},
		{of([]int{1}, nil), [][]int{nil, {0}, {1}, {1, 0}, {0, 0}, {1, 1}, {0, 2}, {0, -1}, {-1, 0}, {2, 0}, {0, 1, 0}, {0, 1, 2}}},
		{of([]int{2}, nil, []int{1}), [][]int{
			nil, {}, {0}, {0, 1}, {0, 2}, {0, 1, 2, 3}, {0, 1, 2, 0}, {0, 1, 1}, {0, 2, 2}, {0, 0, 1}, {0, 1, 0}, {0, 0, 0},
			{1, 0, 2}, {2, 1, 0}, {1, 2, 0}, {1, 1, 2}, {0, 1, 3}, {0, 3, 1}, {3, 0, 1}, {0, -1, 2}, {0, 2, -1}, {-1, 1, 2}, {1, 2, 3},
			{0, 1, math.MaxInt}, {0, math.MinInt, 1}, {math.MinInt, 0, 1}, {0, 1, 2 + 1<<32},
		}},
	} {
		for _, order := range x.orders {
			if r, e := place.Reorder(x.g, order); e != api.ErrArg || !reflect.DeepEqual(r, api.Graph{}) {
				t.Errorf("%d: %+v, %d", order, r, e)
			}
		}
	}
}

// TestOrders has a graph laid in orders, read block by block.
func TestOrders(t *testing.T) {
	g := of([]int{1, 2}, []int{3, 0, 3, 2}, []int{2, 3, 1}, []int{1})
	for _, x := range []struct {
		order []int
		want  []api.End
	}{
		{[]int{0, 1, 2, 3}, []api.End{either(1, 2), choose(3, 0, 3, 2), table(2, 3, 1), to(1)}},
		{[]int{0, 2, 3, 1}, []api.End{either(3, 1), table(1, 2, 3), to(3), choose(2, 0, 2, 1)}},
		{[]int{0, 3, 2, 1}, []api.End{either(3, 2), to(3), table(2, 1, 3), choose(1, 0, 1, 2)}},
	} {
		r := laid(t, g, x.order)
		for i, e := range x.want {
			if !reflect.DeepEqual(r.Blocks[i].End, e) || r.Blocks[i].Code[0].N != uint32(x.order[i]) {
				t.Errorf("%d: the block %d is %+v, want the end %+v", x.order, i, r.Blocks[i], e)
			}
		}
	}
}

// TestWhatIsNotAsked has a graph that walks, though it may not be: what is no number of a block stays as it is.
func TestWhatIsNotAsked(t *testing.T) {
	g := of([]int{1, 2}, nil, []int{0})
	g.Temps, g.Params = -1, []int{9}
	g.Arrays = []api.Array{{Kind: 7, N: -4}}
	g.Blocks[0].Code = []api.Ins{{Op: 77, D: -1, Args: []int{2, 1}, Arrs: []int{}}, {Op: api.InsCall, F: 5, Args: []int{8}, Arrs: []int{1}}}
	g.Blocks[0].End.Targets, g.Blocks[0].End.A, g.Blocks[0].End.N = []int{1, 12}, 1, 2
	g.Blocks[0].End.Cases = []api.Case{{N: 1, To: 2}}
	g.Blocks[1].End = api.End{Kind: api.EndReturn, A: 9, To: 1, Else: -3, Targets: []int{8, 1}, Cases: []api.Case{{To: 1}}}
	g.Blocks[2].End = api.End{Kind: api.EndJump, To: 0, Else: 1, Targets: []int{2}}
	table := api.End{Kind: api.EndTable, To: 1, Else: 2, Targets: []int{1, 2}, Cases: []api.Case{{To: 1}}}
	choice := api.End{Kind: api.EndSwitch, To: 1, Else: 2, Targets: []int{1, 2}, Cases: []api.Case{{To: 1}, {To: 2}, {To: 1}}}
	for _, e := range []api.End{{To: 1, Else: 2}, {Kind: 6, To: 1, Targets: []int{2}}, {Kind: -1, To: 2}, {}, table, choice} {
		g.Blocks = append(g.Blocks, api.Block{End: e})
	}
	laid(t, g, placed(t, g))
	for _, order := range [][]int{{0, 1, 2, 3, 4, 5, 6, 7, 8}, {0, 2, 1, 8, 7, 6, 5, 4, 3}, {0, 8, 7, 1, 2, 6, 3, 5, 4}} {
		laid(t, g, order)
	}
}

// TestMoreThanMayBe has ends with cases of one number, and with more targets than a module's may have.
func TestMoreThanMayBe(t *testing.T) {
	const n = 3 * api.MaxTable
	g := api.Graph{Temps: api.MaxTemps + 1, Blocks: make([]api.Block, n)}
	order := []int{0}
	for b := range n {
		g.Blocks[0].End.Cases = append(g.Blocks[0].End.Cases, api.Case{To: b})
		g.Blocks[1].End.Targets = append(g.Blocks[1].End.Targets, n-1-b)
		if b > 0 {
			order = append(order, n-b)
		}
	}
	g.Blocks[0].End.Kind, g.Blocks[1].End.Kind = api.EndSwitch, api.EndTable
	laid(t, g, placed(t, g))
	laid(t, g, order)
}

// TestSpareRoom has lists with spare room handed in: what is answered shares none of it.
func TestSpareRoom(t *testing.T) {
	g := of([]int{1, 2, 1, 2}, []int{0, 1, 2}, nil)
	roomy := own(g)
	roomy.Blocks = slices.Grow(roomy.Blocks, 9)
	roomy.Params = make([]int, 0, 5)
	for b := range roomy.Blocks {
		own := &roomy.Blocks[b]
		own.Code = slices.Grow(own.Code, 9)
		own.End.Cases, own.End.Targets = slices.Grow(own.End.Cases, 9), slices.Grow(own.End.Targets, 9)
	}
	order := append(make([]int, 0, 20), 0, 2, 1)
	r := laid(t, roomy, order)
	order = order[:20]
	for i := range order {
		order[i] = 99
	}
	if again, _ := place.Reorder(roomy, []int{0, 2, 1}); !reflect.DeepEqual(r, again) {
		t.Errorf("the order is kept: %+v", r)
	}
}
