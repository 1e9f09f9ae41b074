package desk

import (
	"strconv"
	"strings"

	"switchback/api"
	"switchback/drive"
	"switchback/emu"
	"switchback/model"
	"switchback/run"
)

// runner runs what is made of the source. (No script has room for an input that is too long, nor for a fuel that is too much.)
type runner func(d *desk, input string, fuel int) (api.Outcome, error)

func runners() map[string]runner {
	return map[string]runner{
		"model":   (*desk).model,
		"graph":   (*desk).graph,
		"final":   (*desk).final,
		"machine": (*desk).machine,
	}
}

// run does a line that begins with a runner's word, and goes on with a fuel and an input.
func (d *desk) run(line string) (string, error) {
	word, rest, _ := strings.Cut(line, " ")
	r := runners()[word]
	digits, pairs, _ := strings.Cut(rest, " ")
	fuel, isFuel := fuelOf(digits)
	input, isInput := bytesOf(pairs)
	if r == nil || !isFuel || !isInput {
		return "", errWhat
	}
	o, err := r(d, input, fuel)
	if err != nil {
		return "", err
	}
	return outcome(o), nil
}

func (d *desk) model(input string, fuel int) (api.Outcome, error) {
	p, err := d.program.by(drive.Judge, d.source)
	if err != nil {
		return api.Outcome{}, err
	}
	o, _ := model.Run(p, input, fuel)
	return o, nil
}

func (d *desk) graph(input string, fuel int) (api.Outcome, error) {
	l, err := d.modules.by(drive.Passes, d.source)
	if err != nil {
		return api.Outcome{}, err
	}
	o, _ := run.Run(l[0], input, fuel)
	return o, nil
}

func (d *desk) final(input string, fuel int) (api.Outcome, error) {
	l, err := d.modules.by(drive.Passes, d.source)
	if err != nil {
		return api.Outcome{}, err
	}
	o, _ := run.Run(l[len(l)-1], input, fuel)
	return o, nil
}

func (d *desk) machine(input string, fuel int) (api.Outcome, error) {
	m, err := d.image.by(drive.Compile, d.source)
	if err != nil {
		return api.Outcome{}, err
	}
	o, _ := emu.Run(m, input, fuel)
	return o, nil
}

// outcome tells how a run stopped.
func outcome(o api.Outcome) string {
	how := "fuel"
	switch o.Stop {
	case api.StopExit:
		how = row("exit", o.Code)
	case api.StopTrap:
		how = row("trap", o.Code)
	}
	return row(how, o.Steps) + " " + pairsOf(o.Output)
}

// row is a word and numbers, with one blank between each two.
func row[N int | uint32](word string, numbers ...N) string {
	for _, n := range numbers {
		word += " " + strconv.FormatInt(int64(n), 10)
	}
	return word
}
