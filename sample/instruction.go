package sample

import "switchback/api"

// instruction puts an instruction behind others, and ahead of it at times one that makes it likely to be done without a trap.
func (b *builder) instruction(code *[]api.Ins) {
	put := func(i api.Ins) {
		*code = append(*code, i)
	}
	if b.one(12) {
		b.call(put)
		return
	}
	if b.graph.Temps == 0 {
		return
	}
	switch b.below(20) {
	case 0, 1, 2, 3, 4:
		put(api.Ins{Op: api.InsConst, D: b.temp(), N: b.number()})
	case 5, 6:
		put(api.Ins{Op: api.InsMove + b.below(4), D: b.temp(), A: b.any()})
	case 7:
		b.divide(put)
	case 8, 9:
		b.global(put)
	case 10, 11:
		b.element(put)
	case 12:
		put(api.Ins{Op: api.InsGetc, D: b.temp()})
	case 13, 14:
		put(api.Ins{Op: api.InsPutc, A: b.any()})
	case 15:
		if b.one(6) {
			put(api.Ins{Op: api.InsExit, A: b.any()})
		}
	default:
		op := api.InsAdd + b.below(api.InsLeU-api.InsAdd+1)
		if op >= api.InsDivS && op <= api.InsRemU {
			op = api.InsSub
		}
		put(api.Ins{Op: op, D: b.temp(), A: b.any(), B: b.any()})
	}
}

func (b *builder) divide(put func(api.Ins)) {
	right := b.temp()
	if !b.one(4) {
		put(api.Ins{Op: api.InsConst, D: right, N: 1<<32 - 2 + b.number()%4})
	}
	put(api.Ins{Op: api.InsDivS + b.below(4), D: b.temp(), A: b.any(), B: right})
}

func (b *builder) global(put func(api.Ins)) {
	n := len(b.module.Globals)
	if n == 0 {
		return
	}
	if b.one(2) {
		put(api.Ins{Op: api.InsLoad, D: b.temp(), F: b.below(n)})
		return
	}
	put(api.Ins{Op: api.InsStore, F: b.below(n), A: b.any()})
}

func (b *builder) element(put func(api.Ins)) {
	n := len(b.graph.Arrays)
	if n == 0 {
		return
	}
	array, at := b.below(n), b.temp()
	if !b.one(8) {
		put(api.Ins{Op: api.InsConst, D: at, N: uint32(b.below(b.words(array)))})
	}
	if b.one(2) {
		put(api.Ins{Op: api.InsGet, D: b.temp(), F: array, A: at})
		return
	}
	put(api.Ins{Op: api.InsPut, F: array, A: at, B: b.any()})
}

// words is how many words an array has at least.
func (b *builder) words(array int) int {
	switch a := b.graph.Arrays[array]; a.Kind {
	case api.ArrayGlobal:
		return b.module.Arrays[a.N]
	case api.ArrayLocal:
		return a.N
	}
	return 1
}

// callable is mostly a function that stands behind: so calls mostly come to an end. If there is none, there is mostly nothing to call.
func (b *builder) callable() (int, bool) {
	n := len(b.module.Funcs)
	if behind := n - b.own - 1; behind > 0 && !b.one(20) {
		return b.own + 1 + b.below(behind), true
	}
	return b.below(n), b.one(12)
}

func (b *builder) call(put func(api.Ins)) {
	f, found := b.callable()
	of := b.module.Funcs[f]
	if !found || len(of.Params) > 0 && b.graph.Temps == 0 {
		return
	}
	i := api.Ins{Op: api.InsCall, D: b.below(b.graph.Temps-b.kept+1) - 1, F: f}
	for range of.Params {
		i.Args = append(i.Args, b.any())
	}
	for _, a := range of.Arrays {
		if a.Kind != api.ArrayParam {
			continue
		}
		if len(b.graph.Arrays) == 0 {
			return
		}
		i.Arrs = append(i.Arrs, b.below(len(b.graph.Arrays)))
	}
	put(i)
}
