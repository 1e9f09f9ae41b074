package run_test

import "switchback/api"

// A second way to run a module: each call is one of Go's, a stop is thrown, and words are reckoned with as whole numbers of 64 bits.

type stop struct {
	how  int
	code uint32
}

type second struct {
	module  api.Module
	globals []uint32
	arrays  map[int][]uint32
	input   []byte
	asked   int
	output  []byte
	fuel    int
	steps   int
}

func runAgain(m api.Module, input string, fuel int) (o api.Outcome, asked int) {
	s := &second{module: m, arrays: map[int][]uint32{}, input: []byte(input), fuel: fuel}
	s.globals = append(s.globals, m.Globals...)
	for i, n := range m.Arrays {
		s.arrays[i] = make([]uint32, n)
	}
	defer func() {
		how, ok := recover().(stop)
		if !ok {
			panic("no stop")
		}
		o, asked = api.Outcome{Stop: how.how, Code: how.code, Output: string(s.output), Steps: s.steps}, s.asked
	}()
	panic(stop{api.StopExit, s.call(1, m.Main, nil, nil)})
}

func (s *second) step() {
	if s.steps >= s.fuel {
		panic(stop{api.StopFuel, 0})
	}
	s.steps++
}

func trap(is bool, which uint32) {
	if is {
		panic(stop{api.StopTrap, which})
	}
}

func (s *second) call(depth, f int, args []uint32, arrs [][]uint32) uint32 {
	g := s.module.Funcs[f]
	temps := map[int]uint32{}
	for i, p := range g.Params {
		temps[p] = args[i]
	}
	arrays := map[int][]uint32{}
	for i, a := range g.Arrays {
		switch a.Kind {
		case api.ArrayGlobal:
			arrays[i] = s.arrays[a.N]
		case api.ArrayLocal:
			arrays[i] = make([]uint32, a.N)
		case api.ArrayParam:
			arrays[i], arrs = arrs[0], arrs[1:]
		}
	}
	for b := 0; ; {
		for _, i := range g.Blocks[b].Code {
			s.step()
			s.ins(depth, i, temps, arrays)
		}
		s.step()
		e := g.Blocks[b].End
		if e.Kind == api.EndReturn {
			return temps[e.A] // nothing ever sets the temp -1
		}
		b = onTo(e, temps)
	}
}

func onTo(e api.End, temps map[int]uint32) int {
	to := map[uint32]int{}
	switch e.Kind {
	case api.EndIf:
		if reckoned(e.Op, temps[e.A], temps[e.B]) != 1 {
			return e.Else
		}
	case api.EndSwitch:
		for _, c := range e.Cases {
			to[c.N] = c.To
		}
	case api.EndTable:
		for i, t := range e.Targets {
			to[e.N+uint32(i)] = t
		}
	}
	if t, ok := to[temps[e.A]]; ok && e.Kind != api.EndJump {
		return t
	}
	return e.To
}

func (s *second) ins(depth int, i api.Ins, temps map[int]uint32, arrays map[int][]uint32) {
	a, b := temps[i.A], temps[i.B]
	switch i.Op {
	case api.InsConst:
		temps[i.D] = i.N
	case api.InsMove, api.InsNeg, api.InsNot, api.InsLow:
		temps[i.D] = map[int]uint32{api.InsMove: a, api.InsNeg: 0 - a, api.InsNot: 1<<32 - 1 - a, api.InsLow: a & 0xff}[i.Op]
	case api.InsLoad:
		temps[i.D] = s.globals[i.F]
	case api.InsStore:
		s.globals[i.F] = a
	case api.InsGet:
		trap(int64(a) >= int64(len(arrays[i.F])), api.TrapIndex)
		temps[i.D] = arrays[i.F][a]
	case api.InsPut:
		trap(int64(a) >= int64(len(arrays[i.F])), api.TrapIndex)
		arrays[i.F][a] = b
	case api.InsCall:
		trap(depth == 50, api.TrapDepth)
		var args []uint32
		var arrs [][]uint32
		for _, t := range i.Args {
			args = append(args, temps[t])
		}
		for _, n := range i.Arrs {
			arrs = append(arrs, arrays[n])
		}
		if got := s.call(depth+1, i.F, args, arrs); i.D >= 0 {
			temps[i.D] = got
		}
	case api.InsGetc:
		temps[i.D] = 1<<32 - 1
		if s.asked < len(s.input) {
			temps[i.D] = uint32(s.input[s.asked])
		}
		s.asked++
	case api.InsPutc:
		s.output = append(s.output, byte(a&0xff))
	case api.InsExit:
		panic(stop{api.StopExit, a})
	default:
		temps[i.D] = reckoned(i.Op, a, b)
	}
}

func signed(w uint32) int64 {
	if w >= 1<<31 {
		return int64(w) - 1<<32
	}
	return int64(w)
}

func one(is bool) int64 {
	if is {
		return 1
	}
	return 0
}

// floor divides, rounded down, by a power of 2.
func floor(a int64, shift uint32) int64 {
	by := int64(1) << (shift % 32)
	rest := ((a % by) + by) % by
	return (a - rest) / by
}

func reckoned(op int, left, right uint32) uint32 {
	a, b, sa, sb := int64(left), int64(right), signed(left), signed(right)
	var is int64
	switch op {
	case api.InsAdd:
		is = a + b
	case api.InsSub:
		is = a - b
	case api.InsMul:
		is = sa * sb
	case api.InsDivS, api.InsRemS:
		trap(b == 0, api.TrapDiv)
		if is = sa / sb; op == api.InsRemS {
			is = sa - is*sb
		}
	case api.InsDivU, api.InsRemU:
		trap(b == 0, api.TrapDiv)
		if is = a / b; op == api.InsRemU {
			is = a - is*b
		}
	case api.InsAnd:
		is = a & b
	case api.InsOr:
		is = a + b - a&b
	case api.InsXor:
		is = a + b - 2*(a&b)
	case api.InsShl:
		is = a * (1 << (b % 32))
	case api.InsShrS:
		is = floor(sa, right)
	case api.InsShrU:
		is = floor(a, right)
	case api.InsEq:
		is = one(a-b == 0)
	case api.InsNe:
		is = one(a-b != 0)
	case api.InsLtS:
		is = one(sa-sb < 0)
	case api.InsLtU:
		is = one(a-b < 0)
	case api.InsLeS:
		is = one(sa-sb <= 0)
	case api.InsLeU:
		is = one(a-b <= 0)
	}
	return uint32(is & (1<<32 - 1))
}
