package emit_test

import (
	"testing"

	"switchback/api"
	"switchback/emu"
	"switchback/graph"
	"switchback/machine"
	"switchback/relax"
	"switchback/run"
	"switchback/sample"
)

// allLines are the lines of all functions of a module, one behind the other, each with labels of its own.
func allLines(t *testing.T, m api.Module) []api.Line {
	t.Helper()
	var all []api.Line
	label := len(m.Funcs)
	for f := range m.Funcs {
		var l []api.Line
		l, label = emitted(t, m, f, label)
		all = append(all, l...)
	}
	return all
}

// imageOf is a module as an image: behind what calls the function Main, and exits with what that gives back. (It is empty, if there are too many lines or words.)
func imageOf(t *testing.T, m api.Module) api.Image {
	t.Helper()
	l := []api.Line{
		{Op: api.MacLI, A: machine.Frame, Imm: machine.Frames(m)},
		{Op: api.MacCALL, Label: m.Main},
		{Op: api.MacEXIT, A: machine.Result},
	}
	a, i, e := relax.Assemble(append(l, allLines(t, m)...))
	if e == api.ErrTooBig || e == api.ErrLong {
		return api.Image{}
	}
	if e != api.OK {
		t.Fatalf("the line %d is refused: %d: %s", i, e, short(m))
	}
	return api.Image{Words: a.Words, Kinds: a.Kinds, Data: m.Globals}
}

// means checks that a module's image means the same as the module.
func means(t *testing.T, m api.Module, fuel int, inputs ...string) api.Image {
	t.Helper()
	if f, b, e := graph.Check(m); e != api.OK {
		t.Fatalf("the module may not be: %d at %d, %d: %s", e, f, b, short(m))
	}
	image := imageOf(t, m)
	if len(image.Words) == 0 {
		t.Fatalf("too big: %s", short(m))
	}
	for _, input := range inputs {
		if s := sample.UnlikeImage(m, image, input, fuel); s != "" {
			t.Fatalf("%q: %s\n%s", input, s, short(m))
		}
	}
	return image
}

// ends checks that a module means what its image means, and that a run of it ends so.
func ends(t *testing.T, m api.Module, input string, stop int, code uint32, output string) {
	t.Helper()
	means(t, m, 100000, input)
	if o, _ := run.Run(m, input, 100000); o.Stop != stop || o.Code != code || o.Output != output {
		t.Errorf("%+v, want %d, %d, %q: %s", o, stop, code, output, short(m))
	}
}

// outcome is how the image of a module ends.
func outcome(t *testing.T, m api.Module, input string) api.Outcome {
	t.Helper()
	o, e := emu.Run(imageOf(t, m), input, 10000000)
	if e != api.OK || o.Stop == api.StopFuel {
		t.Fatalf("%+v, %d: %s", o, e, short(m))
	}
	return o
}
