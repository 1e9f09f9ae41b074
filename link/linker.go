package link

import (
	"switchback/api"
	"switchback/emit"
	"switchback/machine"
	"switchback/relax"
)

// paper is what lines are written to.
type paper struct {
	lines []api.Line
}

func (p *paper) write(lines ...api.Line) {
	p.lines = append(p.lines, lines...)
}

// full tells whether there are more lines than the assembler takes.
func (p *paper) full() bool {
	return len(p.lines) > api.MaxLines
}

// assembled are the words of the lines, unless they are too much for the assembler.
func (p *paper) assembled() (api.Assembly, bool) {
	a, _, e := relax.Assemble(p.lines)
	return a, e == api.OK
}

// linker writes the functions of a module one behind the other.
type linker struct {
	paper
	module api.Module
	label  int // the first one that no function has
}

// start writes what the image begins with: it calls the function Main, and exits with what that gives back.
func (l *linker) start() {
	l.write(
		api.Line{Op: api.MacLI, A: machine.Frame, Imm: machine.Frames(l.module)},
		api.Line{Op: api.MacCALL, Label: l.module.Main},
		api.Line{Op: api.MacEXIT, A: machine.Result},
	)
}

// function writes a function, and tells whether there was room for it.
func (l *linker) function(f int) bool {
	lines, next, e := emit.Emit(l.module, f, l.label)
	if e != api.OK {
		return false
	}
	l.write(lines...)
	l.label = next
	return !l.full()
}
