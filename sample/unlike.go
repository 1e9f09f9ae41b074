package sample

import (
	"slices"
	"strconv"
	"strings"

	"switchback/api"
	"switchback/emu"
	"switchback/graph"
	"switchback/model"
	"switchback/run"
)

// UnlikeHead tells what a pass that made a module of another one changed that it must not; it is empty, if there is nothing of the kind.
func UnlikeHead(m, result api.Module) string {
	switch _, _, e := graph.Check(result); {
	case e != api.OK:
		return "may not be: " + strconv.Itoa(int(e))
	case !slices.Equal(m.Globals, result.Globals) || !slices.Equal(m.Arrays, result.Arrays):
		return "other globals or arrays"
	case m.Main != result.Main || len(m.Funcs) != len(result.Funcs):
		return "another Main, or more or fewer functions"
	}
	for i, g := range m.Funcs {
		r := result.Funcs[i]
		if len(g.Params) != len(r.Params) || arrayParams(g) != arrayParams(r) {
			return "other parameters of function " + strconv.Itoa(i)
		}
	}
	return ""
}

func arrayParams(g api.Graph) int {
	n := 0
	for _, a := range g.Arrays {
		if a.Kind == api.ArrayParam {
			n++
		}
	}
	return n
}

// Unlike tells how runs of a module and of what a pass made of it differ, on an input, by some fuel; it is empty, if they mean the same. A run of the module that ends within n steps is to be one of the result within most(n).
func Unlike(m, result api.Module, input string, fuel int, most func(n int) int) string {
	return unlike(moduleSide(m, input, reckoned(m)), moduleSide(result, input, most), fuel)
}

// UnlikeImage tells how runs of a module and of an image that is to mean the same (chapter 21) differ, on an input, by some fuel; it is empty, if they do not.
func UnlikeImage(m api.Module, image api.Image, input string, fuel int) string {
	return unlike(moduleSide(m, input, reckoned(m)), imageSide(image, input), fuel)
}

// UnlikeLowered tells how runs of a program and of its module (chapter 7) differ, on an input, by some fuel; it is empty, if they do not.
func UnlikeLowered(p api.Program, m api.Module, input string, fuel int) string {
	nodes := len(p.Nodes)
	program := programSide(p, input, func(k int) int { return (k + 1) * (nodes + 1) })
	return unlike(program, moduleSide(m, input, func(n int) int { return (n + 1) * (nodes + 16) }), fuel)
}

// UnlikeProgram tells how runs of a program and of the image that the compiler made of it (chapter 23) differ, on an input, by some fuel; it is empty, if they do not.
func UnlikeProgram(p api.Program, image api.Image, input string, fuel int) string {
	program := programSide(p, input, func(k int) int { return 64 * (k + 1) * (len(p.Nodes) + 1) })
	return unlike(program, imageSide(image, input), fuel)
}

// side is one of two things that are to mean the same: what comes of it by a fuel, and within how many steps it ends, if the other one ends within n.
type side struct {
	run  func(fuel int) (api.Outcome, api.Errno)
	most func(n int) int
}

func programSide(p api.Program, input string, most func(n int) int) side {
	return side{func(fuel int) (api.Outcome, api.Errno) { return model.Run(p, input, fuel) }, most}
}

func moduleSide(m api.Module, input string, most func(n int) int) side {
	return side{func(fuel int) (api.Outcome, api.Errno) { return run.Run(m, input, fuel) }, most}
}

func imageSide(m api.Image, input string) side {
	most := func(n int) int { return 20000 * (n + 1) }
	return side{func(fuel int) (api.Outcome, api.Errno) { return emu.Run(m, input, fuel) }, most}
}

// reckoned is within how many steps a module ends, if what was made of it ends within k.
func reckoned(m api.Module) func(k int) int {
	return func(k int) int { return (k + 1) * (size(m) + 1) }
}

// unlike holds runs of two things by some fuel against one another.
func unlike(first, result side, fuel int) string {
	a, e := first.run(fuel)
	b, f := result.run(fuel)
	if e != api.OK || f != api.OK {
		return "refused"
	}
	if !strings.HasPrefix(a.Output, b.Output) && !strings.HasPrefix(b.Output, a.Output) {
		return "other output:" + told(a) + told(b)
	}
	if x, same := result.follows(a); !same {
		return "the result ends otherwise:" + told(a) + told(x)
	}
	if x, same := first.follows(b); !same {
		return "what it was made of ends otherwise:" + told(x) + told(b)
	}
	return ""
}

// follows tells whether a side ends as the other one did, if that did; and how it ends.
func (s side) follows(o api.Outcome) (api.Outcome, bool) {
	if o.Stop == api.StopFuel {
		return o, true
	}
	x, _ := s.run(min(s.most(o.Steps), api.MaxFuel))
	return x, alike(o, x)
}

// alike tells whether two runs end alike.
func alike(a, b api.Outcome) bool {
	return a.Stop != api.StopFuel && a.Stop == b.Stop && a.Code == b.Code && a.Output == b.Output
}

// size counts a module's blocks and instructions.
func size(m api.Module) int {
	n := 0
	for _, g := range m.Funcs {
		blocks, code, _ := graph.Count(g)
		n += blocks + code
	}
	return n
}

func told(o api.Outcome) string {
	return " stop " + strconv.Itoa(o.Stop) + " code " + strconv.Itoa(int(o.Code)) + " output " + strconv.Quote(o.Output) + " steps " + strconv.Itoa(o.Steps) + ";"
}
