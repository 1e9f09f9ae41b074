package graph

import "switchback/api"

// maxArrays is how many arrays a graph may know.
const maxArrays = 500

// outside looks at what is no function's.
func outside(m api.Module) api.Errno {
	if len(m.Funcs) == 0 || len(m.Funcs) > api.MaxFuncs || !below(m.Main, len(m.Funcs)) {
		return api.ErrGraphModule
	}
	if len(m.Globals) > api.MaxGlobals || len(m.Arrays) > api.MaxGlobals {
		return api.ErrGraphModule
	}
	words := 0
	for _, n := range m.Arrays {
		if n < 1 || n > api.MaxArray {
			return api.ErrGraphModule
		}
		words += n
	}
	main := m.Funcs[m.Main]
	if words > api.MaxStatic || len(main.Params) > 0 || arrayParams(main) > 0 {
		return api.ErrGraphModule
	}
	return api.OK
}

func arrayParams(g api.Graph) int {
	n := 0
	for _, a := range g.Arrays {
		if a.Kind == api.ArrayParam {
			n++
		}
	}
	return n
}

// handed are the numbers of ArrayParams of a module's functions.
func handed(m api.Module) []int {
	var numbers []int
	for _, g := range m.Funcs {
		numbers = append(numbers, arrayParams(g))
	}
	return numbers
}

// head looks at what of a function is no block's.
func head(m api.Module, g api.Graph) api.Errno {
	if g.Temps < 0 || g.Temps > api.MaxTemps || !paramsMayBe(g) {
		return api.ErrGraphTemp
	}
	if !arraysMayBe(m, g) {
		return api.ErrGraphArray
	}
	if len(g.Blocks) == 0 || len(g.Blocks) > api.MaxBlocks {
		return api.ErrGraphFunc
	}
	if _, code, _ := Count(g); code > api.MaxIns {
		return api.ErrGraphFunc
	}
	return api.OK
}

func paramsMayBe(g api.Graph) bool {
	if len(g.Params) > api.MaxParams {
		return false
	}
	for i, p := range g.Params {
		if !below(p, g.Temps) {
			return false
		}
		for _, ahead := range g.Params[:i] {
			if ahead == p {
				return false
			}
		}
	}
	return true
}

func arraysMayBe(m api.Module, g api.Graph) bool {
	if len(g.Arrays) > maxArrays || arrayParams(g) > api.MaxParams {
		return false
	}
	local := 0
	for _, a := range g.Arrays {
		switch a.Kind {
		case api.ArrayGlobal:
			if !below(a.N, len(m.Arrays)) {
				return false
			}
		case api.ArrayLocal:
			if a.N < 1 || a.N > api.MaxArray {
				return false
			}
			local += a.N
		case api.ArrayParam:
			if a.N != 0 {
				return false
			}
		default:
			return false
		}
	}
	return local <= api.MaxLocal
}
