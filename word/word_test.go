package word_test

import (
	"math/rand"
	"testing"

	"switchback/api"
	"switchback/word"
)

func bit(is bool) uint32 {
	if is {
		return 1
	}
	return 0
}

// wide does an operation on numbers that are wide enough not to wrap.
func wide(op int, x, y int64, shift uint32) uint32 {
	switch op {
	case api.OpAdd:
		return uint32(x + y)
	case api.OpSub:
		return uint32(x - y)
	case api.OpMul:
		return uint32(x * y)
	case api.OpDiv:
		return uint32(x / y)
	case api.OpRem:
		return uint32(x % y)
	case api.OpShl:
		return uint32(x << shift)
	case api.OpShr:
		return uint32(x >> shift)
	case api.OpAnd:
		return uint32(x & y)
	case api.OpOr:
		return uint32(x | y)
	case api.OpXor:
		return uint32(x ^ y)
	}
	return bit(map[int]bool{api.OpEq: x == y, api.OpNe: x != y, api.OpLt: x < y, api.OpLe: x <= y, api.OpGt: x > y, api.OpGe: x >= y}[op])
}

func words() []uint32 {
	l := []uint32{0, 1, 2, 3, 7, 31, 32, 33, 255, 1<<31 - 1, 1 << 31, 1<<31 + 1, 1<<32 - 7, 1<<32 - 2, 1<<32 - 1}
	r := rand.New(rand.NewSource(3))
	for range 20 {
		l = append(l, r.Uint32()>>r.Intn(32))
	}
	return l
}

func TestBinary(t *testing.T) {
	for _, a := range words() {
		for _, b := range words() {
			for op := api.OpAdd; op <= api.OpGe; op++ {
				if word.Divides(op) && b == 0 {
					continue
				}
				if got, want := word.Binary(op, api.TypeUnsigned, a, b), wide(op, int64(a), int64(b), b&31); got != want {
					t.Errorf("unsigned %d of %d, %d: %d, want %d", op, a, b, got, want)
				}
				if got, want := word.Binary(op, api.TypeInt, a, b), wide(op, int64(int32(a)), int64(int32(b)), b&31); got != want {
					t.Errorf("signed %d of %d, %d: %d, want %d", op, a, b, got, want)
				}
			}
		}
	}
}

func TestUnary(t *testing.T) {
	for _, a := range words() {
		if word.Unary(api.OpNeg, a) != uint32(1<<32-uint64(a)) || word.Unary(api.OpNot, a) != uint32(1<<32-1-uint64(a)) || word.Unary(api.OpNil, a) != bit(a == 0) || word.Unary(api.OpPlus, a) != a {
			t.Errorf("of %d: %d, %d, %d, %d", a, word.Unary(api.OpNeg, a), word.Unary(api.OpNot, a), word.Unary(api.OpNil, a), word.Unary(api.OpPlus, a))
		}
	}
}

func TestNarrow(t *testing.T) {
	for _, a := range words() {
		if word.Narrow(api.TypeChar, a) != a&255 || word.Narrow(api.TypeInt, a) != a || word.Narrow(api.TypeUnsigned, a) != a {
			t.Errorf("%d as a char is %d", a, word.Narrow(api.TypeChar, a))
		}
	}
}

func TestTypes(t *testing.T) {
	const i, u = api.TypeInt, api.TypeUnsigned
	for op := api.OpAdd; op <= api.OpPlus; op++ {
		shifts := op == api.OpShl || op == api.OpShr
		compares := map[int]bool{api.OpEq: true, api.OpNe: true, api.OpLt: true, api.OpLe: true, api.OpGt: true, api.OpGe: true}[op]
		if word.Shifts(op) != shifts || word.Compares(op) != compares || word.Divides(op) != (op == api.OpDiv || op == api.OpRem) {
			t.Errorf("the sort of %d", op)
		}
		iu := u
		if shifts {
			iu = i
		}
		if word.Reckons(op, i, i) != i || word.Reckons(op, u, i) != u || word.Reckons(op, u, u) != u || word.Reckons(op, i, u) != iu {
			t.Errorf("the type of %d", op)
		}
	}
	if word.Join(i, i) != i || word.Join(i, u) != u || word.Join(u, i) != u || word.Join(u, u) != u {
		t.Error("joined types")
	}
}

// TestWorks holds what instructions make of words against what operators do.
func TestWorks(t *testing.T) {
	works := word.Works()
	for ins, of := range map[int][2]int{
		api.InsAdd: {api.OpAdd, api.TypeInt}, api.InsSub: {api.OpSub, api.TypeInt}, api.InsMul: {api.OpMul, api.TypeInt},
		api.InsDivS: {api.OpDiv, api.TypeInt}, api.InsDivU: {api.OpDiv, api.TypeUnsigned}, api.InsRemS: {api.OpRem, api.TypeInt}, api.InsRemU: {api.OpRem, api.TypeUnsigned},
		api.InsAnd: {api.OpAnd, api.TypeInt}, api.InsOr: {api.OpOr, api.TypeInt}, api.InsXor: {api.OpXor, api.TypeInt},
		api.InsShl: {api.OpShl, api.TypeInt}, api.InsShrS: {api.OpShr, api.TypeInt}, api.InsShrU: {api.OpShr, api.TypeUnsigned},
		api.InsEq: {api.OpEq, api.TypeInt}, api.InsNe: {api.OpNe, api.TypeInt}, api.InsLtS: {api.OpLt, api.TypeInt}, api.InsLtU: {api.OpLt, api.TypeUnsigned}, api.InsLeS: {api.OpLe, api.TypeInt}, api.InsLeU: {api.OpLe, api.TypeUnsigned},
	} {
		for _, a := range words() {
			for _, b := range words() {
				if b == 0 && word.Divides(of[0]) {
					continue
				}
				if got, want := works[ins](a, b), word.Binary(of[0], of[1], a, b); got != want {
					t.Errorf("%d of %d and %d: %d, want %d", ins, a, b, got, want)
				}
			}
		}
	}
}

func TestSingle(t *testing.T) {
	for _, a := range words() {
		got := [4]uint32{word.Single(api.InsMove, a), word.Single(api.InsNeg, a), word.Single(api.InsNot, a), word.Single(api.InsLow, a)}
		if got != [4]uint32{a, 1<<32 - 1 - a + 1, 1<<32 - 1 - a, a - a/256*256} {
			t.Errorf("%d: %v", a, got)
		}
	}
}
