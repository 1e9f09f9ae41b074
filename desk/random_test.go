package desk_test

import (
	"encoding/hex"
	"math/rand"
	"strconv"
	"strings"
	"testing"

	"switchback/desk"
	"switchback/sample"
)

// line is a line of a script: a command, or something that is nearly one.
func line(r *rand.Rand) string {
	words := []string{"model", "graph", "final", "machine"}
	switch r.Intn(12) {
	case 0:
		return "judge"
	case 1:
		return "compile"
	case 2:
		return "new\n" + source(r)
	case 3:
		return []string{"", "what", "judge ", "Judge", "new 1", "compile 7", "run 1", "| ", "|;", "|x"}[r.Intn(10)]
	case 4:
		return spoilt(r, words[r.Intn(4)]+" "+strconv.Itoa(r.Intn(1000))+" "+hex.EncodeToString([]byte(sample.Input(r.Uint64()))))
	case 5:
		return words[r.Intn(4)] + " " + strconv.Itoa(r.Intn(3000)) + strings.Repeat(" ", r.Intn(2))
	}
	return words[r.Intn(4)] + " " + strconv.Itoa(r.Intn(3000)) + " " + hex.EncodeToString([]byte(sample.Input(r.Uint64())))
}

// spoilt is a line with a byte left out, put in or changed.
func spoilt(r *rand.Rand, s string) string {
	at := r.Intn(len(s))
	return s[:at] + []string{"", "0", "a", "A", "g", " ", "-", "\t", "\xff"}[r.Intn(9)] + s[at+r.Intn(2):]
}

// source are lines that type a source, now and then a wrong one.
func source(r *rand.Rand) string {
	src := sample.Program(uint64(r.Intn(2000)))
	if r.Intn(5) == 0 {
		src = spoilt(r, src)
	}
	return "|" + strings.ReplaceAll(src, "\n", "\n|")
}

// TestScripts has scripts of any lines; what a script's beginning tells, cut behind a line, is a beginning of what all tells.
func TestScripts(t *testing.T) {
	t.Parallel()
	r := rand.New(rand.NewSource(1))
	for range 100 {
		script := source(r) + "\n"
		var cuts []int
		for range 1 + r.Intn(12) {
			cuts = append(cuts, len(script))
			script += line(r) + "\n"
		}
		got := done(t, script)
		for _, cut := range cuts {
			if !strings.HasPrefix(got, desk.Do(script[:cut])) && len(script) <= 20000 {
				t.Fatalf("cut at %d: %q", cut, script)
			}
		}
	}
}
