package desk

import (
	"strings"

	"switchback/drive"
)

// command does a line that is a word alone.
type command func(d *desk) (string, error)

func commands() map[string]command {
	return map[string]command{
		"new":     (*desk).clear,
		"judge":   (*desk).judge,
		"compile": (*desk).compile,
	}
}

// do does a line, and tells what comes of it: nothing, where that is empty.
func (d *desk) do(line string) (string, error) {
	if text, is := strings.CutPrefix(line, "|"); is {
		d.put(d.source + text + "\n")
		return "", nil
	}
	if c := commands()[line]; c != nil {
		return c(d)
	}
	return d.run(line)
}

// put puts a source in the place of the one that is there.
func (d *desk) put(source string) {
	*d = desk{source: source}
}

func (d *desk) clear() (string, error) {
	d.put("")
	return "", nil
}

func (d *desk) judge() (string, error) {
	p, err := d.program.by(drive.Judge, d.source)
	if err != nil {
		return "", err
	}
	return row("ok", len(p.Funcs), len(p.Nodes), len(p.Globals)), nil
}

func (d *desk) compile() (string, error) {
	m, err := d.image.by(drive.Compile, d.source)
	if err != nil {
		return "", err
	}
	return row("ok", len(m.Words), len(m.Data)), nil
}
