package relax_test

import (
	"math"
	"math/rand"
	"slices"
	"testing"

	"switchback/api"
	"switchback/sample"
)

// numbers are those at which some field comes to an end, those one beyond, and others.
func numbers() []int {
	l := []int{math.MinInt, -1 << 32, 1 << 32, 1<<32 + 1, 1<<32 - 1, math.MaxInt}
	for _, n := range []int{-32768, -128, 0, 11, 127, 255, 32767, 65535, 100000} {
		l = append(l, n-1, n, n+1)
	}
	return l
}

// lists are lists that a line may have or not.
func lists() [][]int {
	return [][]int{
		nil, {}, {0}, {1}, {100000}, {0, 100000}, {-1}, {100001}, {0, 0, -1}, {100001, 0}, {0, math.MinInt, 0}, {math.MaxInt},
		make([]int, 399), make([]int, 400), make([]int, 401), append(make([]int, 399), 100001), append(make([]int, 400), -1),
	}
}

// plainLine is a line of an Op that may be, with nothing but what the Op must have.
func plainLine(op int) api.Line {
	x := api.Line{Op: op}
	if op == api.MacJTAB {
		x.List = []int{0}
	}
	return x
}

// changes are a line with each one of its fields otherwise.
func changes(x api.Line) []api.Line {
	var found []api.Line
	put := func(change func(x *api.Line)) {
		y := x
		change(&y)
		found = append(found, y)
	}
	for _, n := range numbers() {
		put(func(x *api.Line) { x.A = n })
		put(func(x *api.Line) { x.B = n })
		put(func(x *api.Line) { x.Imm = n })
		put(func(x *api.Line) { x.Label = n })
		put(func(x *api.Line) { x.N = uint32(n) })
	}
	for _, l := range lists() {
		put(func(x *api.Line) { x.List = l })
	}
	return found
}

// between puts a line at the beginning, in the middle and at the end of a list in which the labels 0, 1 and 100000 stand; a line that is a label stands there with one less.
func between(x api.Line) [][]api.Line {
	labels := slices.DeleteFunc(one(at(0), at(1), at(100000)), func(y api.Line) bool { return x.Op == api.LineLabel && x.Label == y.Label })
	return [][]api.Line{of(one(x, ret), labels), of(labels, one(x, ret)), of(labels, one(ret, x)), one(x), of(labels, one(ret), one(x, x))}
}

// TestEachField has each Op with each of its fields at the ends of what it may be, and beyond.
func TestEachField(t *testing.T) {
	t.Parallel()
	for op := range 49 {
		for _, x := range changes(plainLine(op)) {
			for _, l := range between(x) {
				assembled(t, l)
			}
		}
	}
}

// TestTwoFields has each Op with two of its fields otherwise.
func TestTwoFields(t *testing.T) {
	t.Parallel()
	r := rand.New(rand.NewSource(1))
	for op := range 49 {
		for _, x := range changes(plainLine(op)) {
			for _, y := range changes(x) {
				if r.Intn(20) == 0 {
					l := between(y)
					assembled(t, l[r.Intn(len(l))])
				}
			}
		}
	}
}

// TestNoOp has Ops that are none: what stands in the fields is not asked for.
func TestNoOp(t *testing.T) {
	for _, op := range []int{math.MinInt, -1 << 32, -256, -1, 49, 50, 255, 256, 256 + 44, 1 << 24, 1 << 32, 1<<32 + 44, math.MaxInt} {
		for _, x := range changes(api.Line{Op: op}) {
			bad(t, one(x), 0, api.ErrRelaxOp)
			bad(t, one(at(0), ret, x), 2, api.ErrRelaxOp)
		}
	}
}

// TestTwice has labels that stand twice or more often.
func TestTwice(t *testing.T) {
	for _, n := range []int{0, 1, 17, 99999, 100000} {
		bad(t, one(at(n), at(n)), 1, api.ErrRelaxTwice)
		bad(t, one(at(n), ret, at(n), at(n)), 2, api.ErrRelaxTwice)
		bad(t, of(one(at(n)), times(300, ret), one(at(9), at(n))), 302, api.ErrRelaxTwice)
		bad(t, of(times(300, ret), one(jmp(n), at(n), beq(n), at(n), ret)), 303, api.ErrRelaxTwice)
	}
	bad(t, one(at(1), at(2), at(2), at(1)), 2, api.ErrRelaxTwice)
	bad(t, one(at(2), at(1), at(0), at(2), at(0)), 3, api.ErrRelaxTwice)
}

// TestNowhere has lines that go to labels that stand nowhere.
func TestNowhere(t *testing.T) {
	for _, op := range []int{api.MacBEQ, api.MacBNE, api.MacBLTS, api.MacBGES, api.MacBLES, api.MacBGTS, api.MacBLTU, api.MacBGEU, api.MacBLEU, api.MacBGTU, api.MacJMP, api.MacJML, api.MacCALL} {
		for _, n := range []int{0, 1, 5, 7, 99999, 100000} {
			x := api.Line{Op: op, Label: n}
			bad(t, one(x), 0, api.ErrRelaxLabel)
			bad(t, one(at(6), ret, x), 2, api.ErrRelaxLabel)
			bad(t, one(x, at(6), ret), 0, api.ErrRelaxLabel)
			good(t, one(x, at(6), ret, at(n)))
			good(t, one(at(n), x, at(6)))
		}
	}
	for _, n := range []int{0, 1, 5, 7, 99999, 100000} {
		bad(t, one(at(6), jtab(0, n)), 1, api.ErrRelaxLabel)
		bad(t, one(at(6), jtab(0, 6, 6, 6, n)), 1, api.ErrRelaxLabel)
		bad(t, one(at(6), jtab(0, n, 6), jtab(0, n)), 1, api.ErrRelaxLabel)
		bad(t, one(at(6), jtab(0, 6), jtab(0, 6, n, 6), ret), 2, api.ErrRelaxLabel)
		bad(t, one(jtab(0, append(slices.Repeat([]int{6}, 399), n)...), at(6)), 0, api.ErrRelaxLabel)
		good(t, one(at(6), jtab(0, 6, n, 6), at(n)))
	}
	// A line that goes nowhere has no label that might be missing.
	good(t, one(ret, lit(1, 5), api.Line{Op: api.MacEXIT}, api.Line{Op: api.MacLI, Imm: 4}))
}

// TestTwoCauses has two causes in one list, in either order.
func TestTwoCauses(t *testing.T) {
	op, operand, twice, nowhere := api.Line{Op: 49, A: 12}, api.Line{Op: api.MacMOV, A: 12}, at(1), jmp(2)
	twiceAndWrong := api.Line{Op: api.LineLabel, Label: 1, N: 1}
	for _, x := range []struct {
		l    []api.Line
		line int
		e    api.Errno
	}{
		{one(at(1), op, operand), 1, api.ErrRelaxOp},
		{one(at(1), operand, op), 1, api.ErrRelaxOperand},
		{one(at(1), operand, twice), 1, api.ErrRelaxOperand},
		{one(at(1), twice, operand), 1, api.ErrRelaxTwice},
		{one(at(1), twice, op), 1, api.ErrRelaxTwice},
		{one(at(1), op, twice), 1, api.ErrRelaxOp},
		{one(at(1), nowhere, op), 2, api.ErrRelaxOp},
		{one(nowhere, at(1), operand), 2, api.ErrRelaxOperand},
		{one(nowhere, at(1), twice), 2, api.ErrRelaxTwice},
		{one(nowhere, at(1), nowhere), 0, api.ErrRelaxLabel},
		{one(at(1), jtab(0, 1), jtab(1, 1, 3), nowhere), 2, api.ErrRelaxLabel},
		{one(at(1), jmp(1), nowhere, jtab(1, 1, 3)), 2, api.ErrRelaxLabel},
		{one(at(1), twiceAndWrong), 1, api.ErrRelaxOperand},
		{one(at(1), jtab(0, 5, -1)), 1, api.ErrRelaxOperand},
		{one(at(1), ret, api.Line{Op: api.MacJTAB, A: 12, List: []int{5}}), 2, api.ErrRelaxOperand},
		{one(branch(api.MacBEQ, 0, 12, 5), at(1)), 0, api.ErrRelaxOperand},
	} {
		bad(t, x.l, x.line, x.e)
	}
}

// spoil changes something in a list, which may make it one that is refused.
func spoil(r *rand.Rand, l []api.Line) {
	if len(l) == 0 {
		return
	}
	i := r.Intn(len(l))
	n := numbers()[r.Intn(len(numbers()))]
	switch r.Intn(12) {
	case 0:
		l[i].Op = r.Intn(60) - 5
	case 1:
		l[i].A = n
	case 2:
		l[i].B = n
	case 3:
		l[i].Imm = n
	case 4:
		l[i].N = uint32(n)
	case 5, 6:
		l[i].Label = n
	case 7:
		l[i].List = lists()[r.Intn(len(lists()))]
	case 8:
		l[i] = l[r.Intn(len(l))]
	case 9:
		l[i] = ret
	case 10:
		l[i] = at(r.Intn(10))
	default:
		if len(l[i].List) > 0 {
			l[i].List[r.Intn(len(l[i].List))] = n
		}
	}
}

// TestSpoilt has lists that were spoilt here and there.
func TestSpoilt(t *testing.T) {
	t.Parallel()
	r := rand.New(rand.NewSource(2))
	errors := map[api.Errno]int{}
	for i := range uint64(10000) {
		l := sample.Lines(i)
		for range 1 + r.Intn(4) {
			spoil(r, l)
		}
		_, e := assembled(t, l)
		errors[e]++
	}
	for _, e := range []api.Errno{api.OK, api.ErrRelaxOp, api.ErrRelaxOperand, api.ErrRelaxTwice, api.ErrRelaxLabel} {
		if errors[e] < 200 {
			t.Errorf("errors %v", errors)
		}
	}
}
