// Package word reckons with words of 32 bits, as C's operators do.
package word

import "switchback/api"

// Bool is 1 or 0.
func Bool(is bool) uint32 {
	if is {
		return 1
	}
	return 0
}

// Narrow is a word as what is declared with a type holds it.
func Narrow(typ int, w uint32) uint32 {
	if typ == api.TypeChar {
		return w % 256
	}
	return w
}

// DivS divides signed; b is not 0. (Go itself lets -2^31 divided by -1 be -2^31, with the rest 0.)
func DivS(a, b uint32) uint32 {
	return uint32(int32(a) / int32(b))
}

// RemS is the rest of a signed division; b is not 0.
func RemS(a, b uint32) uint32 {
	return uint32(int32(a) % int32(b))
}

// Shl shifts to the left, by b mod 32.
func Shl(a, b uint32) uint32 {
	return a << (b % 32)
}

// ShrS shifts to the right, by b mod 32, and fills with the highest bit.
func ShrS(a, b uint32) uint32 {
	return uint32(int32(a) >> (b % 32))
}

// ShrU shifts to the right, by b mod 32, and fills with 0.
func ShrU(a, b uint32) uint32 {
	return a >> (b % 32)
}

// LtS tells whether a is less than b, signed.
func LtS(a, b uint32) bool {
	return int32(a) < int32(b)
}

// Unary is what an operator makes of a word.
func Unary(op int, a uint32) uint32 {
	switch op {
	case api.OpNeg:
		return -a
	case api.OpNot:
		return ^a
	case api.OpNil:
		return Bool(a == 0)
	}
	return a
}

// Divides tells whether an operator divides: its right word may not be 0.
func Divides(op int) bool {
	return op == api.OpDiv || op == api.OpRem
}

// Compares tells whether an operator is a comparison.
func Compares(op int) bool {
	return op >= api.OpEq && op <= api.OpGe
}

// Shifts tells whether an operator is a shift: its left word alone says what type it has.
func Shifts(op int) bool {
	return op == api.OpShl || op == api.OpShr
}

// Join is the type of what has two types at once: unsigned, if one of them is, else int.
func Join(left, right int) int {
	if left == api.TypeUnsigned || right == api.TypeUnsigned {
		return api.TypeUnsigned
	}
	return api.TypeInt
}

// Reckons is the type in which an operator reckons with words of two types.
func Reckons(op, left, right int) int {
	if Shifts(op) {
		return left
	}
	return Join(left, right)
}

// Binary is what an operator, reckoning in a type, makes of two words; b is not 0 where it divides.
func Binary(op, typ int, a, b uint32) uint32 {
	switch op {
	case api.OpAdd:
		return a + b
	case api.OpSub:
		return a - b
	case api.OpMul:
		return a * b
	case api.OpShl:
		return Shl(a, b)
	case api.OpAnd:
		return a & b
	case api.OpOr:
		return a | b
	case api.OpXor:
		return a ^ b
	case api.OpEq:
		return Bool(a == b)
	case api.OpNe:
		return Bool(a != b)
	}
	if typ == api.TypeUnsigned {
		return unsigned(op, a, b)
	}
	return signed(op, a, b)
}

func unsigned(op int, a, b uint32) uint32 {
	switch op {
	case api.OpDiv:
		return a / b
	case api.OpRem:
		return a % b
	case api.OpShr:
		return ShrU(a, b)
	case api.OpLt:
		return Bool(a < b)
	case api.OpLe:
		return Bool(a <= b)
	case api.OpGt:
		return Bool(a > b)
	case api.OpGe:
		return Bool(a >= b)
	}
	return 0
}

func signed(op int, a, b uint32) uint32 {
	switch op {
	case api.OpDiv:
		return DivS(a, b)
	case api.OpRem:
		return RemS(a, b)
	case api.OpShr:
		return ShrS(a, b)
	case api.OpLt:
		return Bool(LtS(a, b))
	case api.OpLe:
		return Bool(!LtS(b, a))
	case api.OpGt:
		return Bool(LtS(b, a))
	case api.OpGe:
		return Bool(!LtS(a, b))
	}
	return 0
}
