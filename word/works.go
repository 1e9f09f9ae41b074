package word

import "switchback/api"

// Works are what instructions make of two words, by their Op. (What divides is asked only of a right word that is not 0.)
func Works() [api.InsLeU + 1]func(a, b uint32) uint32 {
	return [...]func(a, b uint32) uint32{
		api.InsAdd:  func(a, b uint32) uint32 { return a + b },
		api.InsSub:  func(a, b uint32) uint32 { return a - b },
		api.InsMul:  func(a, b uint32) uint32 { return a * b },
		api.InsDivS: DivS,
		api.InsDivU: func(a, b uint32) uint32 { return a / b },
		api.InsRemS: RemS,
		api.InsRemU: func(a, b uint32) uint32 { return a % b },
		api.InsAnd:  func(a, b uint32) uint32 { return a & b },
		api.InsOr:   func(a, b uint32) uint32 { return a | b },
		api.InsXor:  func(a, b uint32) uint32 { return a ^ b },
		api.InsShl:  Shl,
		api.InsShrS: ShrS,
		api.InsShrU: ShrU,
		api.InsEq:   func(a, b uint32) uint32 { return Bool(a == b) },
		api.InsNe:   func(a, b uint32) uint32 { return Bool(a != b) },
		api.InsLtS:  func(a, b uint32) uint32 { return Bool(LtS(a, b)) },
		api.InsLtU:  func(a, b uint32) uint32 { return Bool(a < b) },
		api.InsLeS:  func(a, b uint32) uint32 { return Bool(!LtS(b, a)) },
		api.InsLeU:  func(a, b uint32) uint32 { return Bool(a <= b) },
	}
}

// Single is what an instruction, InsMove to InsLow, makes of one word.
func Single(op int, a uint32) uint32 {
	switch op {
	case api.InsNeg:
		return -a
	case api.InsNot:
		return ^a
	case api.InsLow:
		return a % 256
	}
	return a
}
