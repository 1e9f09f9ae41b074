package emit_test

import "switchback/api"

// Graphs by short names.

// of is a module of some functions, the first of which is Main.
func of(funcs ...api.Graph) api.Module { return api.Module{Funcs: funcs} }

func fn(all int, blocks ...api.Block) api.Graph { return api.Graph{Temps: all, Blocks: blocks} }

// with is a function with parameters.
func with(g api.Graph, params ...int) api.Graph {
	g.Params = params
	return g
}

// knowing is a function that knows arrays.
func knowing(g api.Graph, arrays ...api.Array) api.Graph {
	g.Arrays = arrays
	return g
}

func global(n int) api.Array { return api.Array{Kind: api.ArrayGlobal, N: n} }

func local(words int) api.Array { return api.Array{Kind: api.ArrayLocal, N: words} }

func handed() api.Array { return api.Array{Kind: api.ArrayParam} }

func block(end api.End, code ...api.Ins) api.Block { return api.Block{Code: code, End: end} }

func to(b int) api.End { return api.End{Kind: api.EndJump, To: b} }

func back(a int) api.End { return api.End{Kind: api.EndReturn, A: a} }

func either(op, a, b, yes, no int) api.End {
	return api.End{Kind: api.EndIf, Op: op, A: a, B: b, To: yes, Else: no}
}

func choose(a, other int, cases ...api.Case) api.End {
	return api.End{Kind: api.EndSwitch, A: a, To: other, Cases: cases}
}

func table(a int, n uint32, other int, targets ...int) api.End {
	return api.End{Kind: api.EndTable, A: a, N: n, To: other, Targets: targets}
}

func set(d int, n uint32) api.Ins { return api.Ins{Op: api.InsConst, D: d, N: n} }

func one(op, d, a int) api.Ins { return api.Ins{Op: op, D: d, A: a} }

func two(op, d, a, b int) api.Ins { return api.Ins{Op: op, D: d, A: a, B: b} }

func load(d, f int) api.Ins { return api.Ins{Op: api.InsLoad, D: d, F: f} }

func store(f, a int) api.Ins { return api.Ins{Op: api.InsStore, F: f, A: a} }

func get(d, array, a int) api.Ins { return api.Ins{Op: api.InsGet, D: d, F: array, A: a} }

func put(array, a, b int) api.Ins { return api.Ins{Op: api.InsPut, F: array, A: a, B: b} }

func getc(d int) api.Ins { return api.Ins{Op: api.InsGetc, D: d} }

func putc(a int) api.Ins { return api.Ins{Op: api.InsPutc, A: a} }

func exit(a int) api.Ins { return api.Ins{Op: api.InsExit, A: a} }

func call(d, f int, args ...int) api.Ins {
	return api.Ins{Op: api.InsCall, D: d, F: f, Args: args}
}

// giving is a call that hands arrays over, too.
func giving(i api.Ins, arrays ...int) api.Ins {
	i.Arrs = arrays
	return i
}
