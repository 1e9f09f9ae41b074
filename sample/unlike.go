package sample

import (
	"slices"
	"strconv"
	"strings"

	"switchback/api"
	"switchback/emu"
	"switchback/graph"
	"switchback/run"
)

// UnlikeHead tells what a pass that made a module of another one changed that it must not; it is empty, if there is nothing of the kind.
func UnlikeHead(m, result api.Module) string {
	switch _, _, e := graph.Check(result); {
	case e != api.OK:
		return "may not be: " + strconv.Itoa(int(e))
	case !slices.Equal(m.Globals, result.Globals) || !slices.Equal(m.Arrays, result.Arrays):
		return "other globals or arrays"
	case m.Main != result.Main || len(m.Funcs) != len(result.Funcs):
		return "another Main, or more or fewer functions"
	}
	for i, g := range m.Funcs {
		r := result.Funcs[i]
		if len(g.Params) != len(r.Params) || arrayParams(g) != arrayParams(r) {
			return "other parameters of function " + strconv.Itoa(i)
		}
	}
	return ""
}

func arrayParams(g api.Graph) int {
	n := 0
	for _, a := range g.Arrays {
		if a.Kind == api.ArrayParam {
			n++
		}
	}
	return n
}

// Unlike tells how runs of a module and of what a pass made of it differ, on an input, by some fuel; it is empty, if they mean the same. A run of the module that ends within n steps is to be one of the result within most(n).
func Unlike(m, result api.Module, input string, fuel int, most func(n int) int) string {
	return unlike(m, input, fuel, most, func(fuel int) (api.Outcome, api.Errno) { return run.Run(result, input, fuel) })
}

// UnlikeImage tells how runs of a module and of an image that is to mean the same (chapter 21) differ, on an input, by some fuel; it is empty, if they do not.
func UnlikeImage(m api.Module, image api.Image, input string, fuel int) string {
	most := func(n int) int { return 20000 * (n + 1) }
	return unlike(m, input, fuel, most, func(fuel int) (api.Outcome, api.Errno) { return emu.Run(image, input, fuel) })
}

// unlike holds runs of a module against those of a result, by their fuel.
func unlike(m api.Module, input string, fuel int, most func(n int) int, result func(fuel int) (api.Outcome, api.Errno)) string {
	a, e := run.Run(m, input, fuel)
	b, f := result(fuel)
	if e != api.OK || f != api.OK {
		return "refused"
	}
	if !strings.HasPrefix(a.Output, b.Output) && !strings.HasPrefix(b.Output, a.Output) {
		return "other output:" + told(a) + told(b)
	}
	if a.Stop != api.StopFuel {
		limit := min(most(a.Steps), api.MaxFuel)
		if x, _ := result(limit); !alike(a, x) {
			return "the result ends otherwise:" + told(a) + told(x)
		}
	}
	if b.Stop != api.StopFuel {
		limit := min((b.Steps+1)*(size(m)+1), api.MaxFuel)
		if x, _ := run.Run(m, input, limit); !alike(b, x) {
			return "the module ends otherwise:" + told(x) + told(b)
		}
	}
	return ""
}

// alike tells whether two runs end alike.
func alike(a, b api.Outcome) bool {
	return a.Stop != api.StopFuel && a.Stop == b.Stop && a.Code == b.Code && a.Output == b.Output
}

// size counts a module's blocks and instructions.
func size(m api.Module) int {
	n := 0
	for _, g := range m.Funcs {
		blocks, code, _ := graph.Count(g)
		n += blocks + code
	}
	return n
}

func told(o api.Outcome) string {
	return " stop " + strconv.Itoa(o.Stop) + " code " + strconv.Itoa(int(o.Code)) + " output " + strconv.Quote(o.Output) + " steps " + strconv.Itoa(o.Steps) + ";"
}
