package drive_test

import (
	"math/rand"
	"strings"
	"testing"

	"switchback/api"
	"switchback/check"
	"switchback/drive"
	"switchback/lex"
	"switchback/parse"
	"switchback/sample"
)

func TestSamplesMeanTheSame(t *testing.T) {
	t.Parallel()
	r := rand.New(rand.NewSource(1))
	for i := range uint64(1000) {
		means(t, sample.Program(i), 5000, sample.Input(r.Uint64()), sample.Input(r.Uint64()))
	}
}

// TestSpoiltSources has sources with a byte left out, put in or changed here and there: what is wrong with them is told by the layer that finds it, and all others are compiled.
func TestSpoiltSources(t *testing.T) {
	t.Parallel()
	r := rand.New(rand.NewSource(2))
	stages := map[int]int{}
	for range 3000 {
		src := spoilt(r, sample.Program(uint64(r.Intn(300))))
		want, wrong := readBy(src)
		stages[wrong.Stage]++
		if wrong.Stage > 0 {
			refuses(t, wrong.Stage, wrong.Code, wrong.At, src)
			continue
		}
		if p, err := drive.Judge(src); err != nil || len(p.Nodes) != len(want.Nodes) {
			t.Fatalf("%v: %s", err, src)
		}
		compiled(t, src)
	}
	for stage := range 4 {
		if stages[stage] < 100 {
			t.Errorf("%d sources of the stage %d", stages[stage], stage)
		}
	}
}

// spoilt is a source with something small changed.
func spoilt(r *rand.Rand, src string) string {
	pieces := []string{"", "", "", "$", "'", "08", "/*", ")", ";", "int ", "x", "break;", "case 1:", "goto l7;", "main", "[1]", "0", " ", "}"}
	at := r.Intn(len(src))
	return src[:at] + pieces[r.Intn(len(pieces))] + strings.Repeat(" ", r.Intn(2)) + src[min(at+r.Intn(3), len(src)):]
}

// readBy asks the layers, one behind the other, what they make of a source.
func readBy(src string) (api.Program, drive.Fault) {
	tokens, at, e := lex.Lex(src)
	if e != api.OK {
		return api.Program{}, drive.Fault{Stage: 1, Code: e, At: at}
	}
	tree, at, e := parse.Parse(tokens)
	if e != api.OK {
		return api.Program{}, drive.Fault{Stage: 2, Code: e, At: at}
	}
	p, at, e := check.Check(tree)
	if e != api.OK {
		return api.Program{}, drive.Fault{Stage: 3, Code: e, At: at}
	}
	return p, drive.Fault{}
}
