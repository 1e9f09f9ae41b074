package desk_test

import (
	"encoding/hex"
	"fmt"
	"regexp"
	"strconv"
	"strings"

	"switchback/api"
	"switchback/drive"
	"switchback/emu"
	"switchback/model"
	"switchback/run"
)

var (
	typed = regexp.MustCompile(`(?s)^\|(.*)$`)
	plain = regexp.MustCompile(`^(new|judge|compile)$`)
	runs  = regexp.MustCompile(`^(model|graph|final|machine) ([0-9]{1,7})(?: ((?:[0-9a-f][0-9a-f])*))?$`)
)

// told is what a script tells, by the chapter's table: each line is asked of the shapes that lines have, and works everything out anew.
func told(script string) string {
	if len(script) > 20000 {
		return "long\n"
	}
	lines := strings.Split(script, "\n")
	if lines[len(lines)-1] == "" {
		lines = lines[:len(lines)-1]
	}
	source, all := "", ""
	for _, line := range lines {
		switch {
		case typed.MatchString(line):
			source += line[1:] + "\n"
		case line == "new":
			source = ""
		case plain.MatchString(line):
			all += plainLine(line, source) + "\n"
		case runs.MatchString(line):
			all += runLine(runs.FindStringSubmatch(line), source) + "\n"
		default:
			all += "what\n"
		}
	}
	return all
}

func plainLine(line, source string) string {
	if line == "judge" {
		p, err := drive.Judge(source)
		if err != nil {
			return err.Error()
		}
		return fmt.Sprintf("ok %d %d %d", len(p.Funcs), len(p.Nodes), len(p.Globals))
	}
	m, err := drive.Compile(source)
	if err != nil {
		return err.Error()
	}
	return fmt.Sprintf("ok %d %d", len(m.Words), len(m.Data))
}

func runLine(pieces []string, source string) string {
	if _, err := drive.Compile(source); err != nil {
		return err.Error()
	}
	fuel, _ := strconv.Atoi(pieces[2])
	input, _ := hex.DecodeString(pieces[3])
	p, _ := drive.Judge(source)
	l, _ := drive.Passes(source)
	m, _ := drive.Compile(source)
	var o api.Outcome
	switch pieces[1] {
	case "model":
		o, _ = model.Run(p, string(input), fuel)
	case "graph":
		o, _ = run.Run(l[0], string(input), fuel)
	case "final":
		o, _ = run.Run(l[6], string(input), fuel)
	case "machine":
		o, _ = emu.Run(m, string(input), fuel)
	}
	out := hex.EncodeToString([]byte(o.Output))
	if out == "" {
		out = "-"
	}
	switch o.Stop {
	case api.StopExit:
		return fmt.Sprintf("exit %d %d %s", o.Code, o.Steps, out)
	case api.StopTrap:
		return fmt.Sprintf("trap %d %d %s", o.Code, o.Steps, out)
	}
	return fmt.Sprintf("fuel %d %s", o.Steps, out)
}
