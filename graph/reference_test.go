package graph_test

import (
	"slices"

	"switchback/api"
)

// A second reading of P5.1: all that is wrong with a module is gathered, each with its place in the chapter's order, and the least is the answer.

type wrong struct {
	order [5]int
	found
}

type reading struct {
	m     api.Module
	wrong []wrong
}

func (r *reading) add(is bool, fn, block int, e api.Errno, order ...int) {
	if is {
		w := wrong{found: found{fn, block, e}}
		copy(w.order[:], order)
		r.wrong = append(r.wrong, w)
	}
}

func readAgain(m api.Module) found {
	r := &reading{m: m}
	r.first()
	for i, g := range m.Funcs {
		r.second(i, g)
		for b := range g.Blocks {
			r.third(i, b)
		}
	}
	if len(r.wrong) == 0 {
		return fine
	}
	return slices.MinFunc(r.wrong, func(x, y wrong) int { return slices.Compare(x.order[:], y.order[:]) }).found
}

func count(g api.Graph, kind int) int {
	n := 0
	for _, a := range g.Arrays {
		if a.Kind == kind {
			n++
		}
	}
	return n
}

func (r *reading) first() {
	m := r.m
	sum := 0
	bad := len(m.Funcs) < 1 || len(m.Funcs) > 60 || len(m.Globals) > 200 || len(m.Arrays) > 200
	for _, n := range m.Arrays {
		bad = bad || n <= 0 || n > 1000
		sum += min(max(n, 0), 20000)
	}
	bad = bad || sum > 10000
	if m.Main >= 0 && m.Main < len(m.Funcs) {
		bad = bad || len(m.Funcs[m.Main].Params) != 0 || count(m.Funcs[m.Main], 3) != 0
	} else {
		bad = true
	}
	r.add(bad, -1, -1, 56, 1)
}

func (r *reading) second(i int, g api.Graph) {
	seen := map[int]int{}
	bad := g.Temps < 0 || g.Temps > 8000 || len(g.Params) > 8
	for _, p := range g.Params {
		seen[p]++
		bad = bad || p < 0 || p >= g.Temps || seen[p] > 1
	}
	r.add(bad, i, -1, 51, 2, i, 1)
	bad = len(g.Arrays) > 500 || count(g, 3) > 8
	local := 0
	for _, a := range g.Arrays {
		bad = bad || a.Kind < 1 || a.Kind > 3
		bad = bad || a.Kind == 1 && (a.N < 0 || a.N >= len(r.m.Arrays))
		bad = bad || a.Kind == 2 && (a.N < 1 || a.N > 1000)
		bad = bad || a.Kind == 3 && a.N != 0
		if a.Kind == 2 {
			local += min(max(a.N, 0), 2000)
		}
	}
	r.add(bad || local > 1000, i, -1, 52, 2, i, 2)
	code := 0
	for _, b := range g.Blocks {
		code += len(b.Code)
	}
	r.add(len(g.Blocks) < 1 || len(g.Blocks) > 20000 || code > 40000, i, -1, 50, 2, i, 3)
}

func (r *reading) third(f, b int) {
	g := r.m.Funcs[f]
	for n, i := range g.Blocks[b].Code {
		at := 10 * n
		tell := func(is bool, e api.Errno, rank int) { r.add(is, f, b, e, 3, f, b, at+rank) }
		if i.Op < 1 || i.Op > 32 {
			tell(true, 53, 1)
			continue
		}
		fields := has(i.Op)
		tell(!within(fields, "D") && i.D != 0 || !within(fields, "A") && i.A != 0 || !within(fields, "B") && i.B != 0 || !within(fields, "F") && i.F != 0 ||
			!within(fields, "N") && i.N != 0 || !within(fields, "Args") && len(i.Args) != 0 || !within(fields, "Arrs") && len(i.Arrs) != 0, 53, 1)
		temp := func(name string, t int) bool { return within(fields, name) && (t < 0 || t >= g.Temps) }
		tell(temp("D", i.D) && !(i.Op == 29 && i.D == -1) || temp("A", i.A) || temp("B", i.B), 51, 2)
		tell((i.Op == 25 || i.Op == 26) && (i.F < 0 || i.F >= len(r.m.Globals)), 53, 3)
		tell((i.Op == 27 || i.Op == 28) && (i.F < 0 || i.F >= len(g.Arrays)), 52, 4)
		tell(i.Op == 29 && !r.callIs(g, i), 54, 5)
	}
	r.add(!endIs(g, g.Blocks[b].End), f, b, 55, 3, f, b, 1<<40)
}

func (r *reading) callIs(g api.Graph, i api.Ins) bool {
	if i.F < 0 || i.F >= len(r.m.Funcs) || len(i.Args) != len(r.m.Funcs[i.F].Params) || len(i.Arrs) != count(r.m.Funcs[i.F], 3) {
		return false
	}
	for _, a := range i.Args {
		if a < 0 || a >= g.Temps {
			return false
		}
	}
	for _, a := range i.Arrs {
		if a < 0 || a >= len(g.Arrays) {
			return false
		}
	}
	return true
}

func endIs(g api.Graph, e api.End) bool {
	temp := e.A >= 0 && e.A < g.Temps
	to := e.To >= 0 && e.To < len(g.Blocks)
	same := func(as api.End) bool {
		return e.Op == as.Op && e.A == as.A && e.B == as.B && e.N == as.N && e.To == as.To && e.Else == as.Else &&
			len(e.Cases) == len(as.Cases) && len(e.Targets) == len(as.Targets)
	}
	switch e.Kind {
	case 1:
		return to && same(api.End{To: e.To})
	case 2:
		return temp && to && e.B >= 0 && e.B < g.Temps && e.Else >= 0 && e.Else < len(g.Blocks) && e.Op >= 19 && e.Op <= 24 &&
			same(api.End{Op: e.Op, A: e.A, B: e.B, To: e.To, Else: e.Else})
	case 3:
		seen := map[uint32]int{}
		for _, c := range e.Cases {
			seen[c.N]++
			to = to && c.To >= 0 && c.To < len(g.Blocks)
		}
		return temp && to && len(seen) == len(e.Cases) && len(seen) <= 400 && same(api.End{A: e.A, Cases: e.Cases, To: e.To})
	case 4:
		for _, t := range e.Targets {
			to = to && t >= 0 && t < len(g.Blocks)
		}
		return temp && to && len(e.Targets) >= 1 && len(e.Targets) <= 400 && same(api.End{A: e.A, N: e.N, Targets: e.Targets, To: e.To})
	case 5:
		return (temp || e.A == -1) && same(api.End{A: e.A})
	}
	return false
}
