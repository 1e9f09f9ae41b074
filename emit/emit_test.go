package emit_test

import (
	"fmt"
	"reflect"
	"slices"
	"testing"

	"switchback/api"
	"switchback/emit"
	"switchback/graph"
	"switchback/relax"
	"switchback/sample"
)

// short is how a failure tells of something: what is great, not whole.
func short(v any) string {
	return fmt.Sprintf("%.4000s", fmt.Sprintf("%+v", v))
}

// emitted are the lines of a function, and the first label behind those that they use; it checks all that is promised of every answer, but for what the lines do.
func emitted(t *testing.T, m api.Module, f, label int) ([]api.Line, int) {
	t.Helper()
	// A copy shares no memory within itself.
	m, ahead := graph.Copy(m), m
	l, next, e := emit.Emit(m, f, label)
	if e != api.OK {
		t.Fatalf("%d, from %d on: %d: %s", f, label, e, short(m))
	}
	if !reflect.DeepEqual(m, ahead) {
		t.Fatalf("the module is changed: %s", short(m))
	}
	if wrong := wrongLabels(l, f, label, next, len(m.Funcs)); wrong != "" {
		t.Fatalf("%s: %s\n%s", wrong, short(l), short(m))
	}
	if wrong := wrongLines(l, f, len(m.Funcs)); wrong != "" {
		t.Fatalf("%s: %s\n%s", wrong, short(l), short(m))
	}
	if words, most := longWords(l), 64*size(m.Funcs[f]); words > most || len(l) > api.MaxLines {
		t.Fatalf("%d lines, %d words, at most %d: %s", len(l), words, most, short(m))
	}
	other, after, _ := emit.Emit(m, f, label)
	if !reflect.DeepEqual(l, other) || after != next {
		t.Fatalf("another answer: %s\n%s", short(l), short(other))
	}
	if !sample.Apart(l, other) || !sample.Apart(append(lists(m), append(tables(l), tables(other)...)...)...) {
		t.Fatalf("shared memory: %s", short(l))
	}
	return l, next
}

// lists are the lists of numbers of a module.
func lists(m api.Module) [][]int {
	all := [][]int{m.Arrays}
	for _, g := range m.Funcs {
		all = append(all, g.Params)
		for _, b := range g.Blocks {
			all = append(all, b.End.Targets)
			for _, i := range b.Code {
				all = append(all, i.Args, i.Arrs)
			}
		}
	}
	return all
}

// tables are the lists of labels of some lines.
func tables(l []api.Line) [][]int {
	var all [][]int
	for _, x := range l {
		all = append(all, x.List)
	}
	return all
}

// goals are the labels that a line goes to, and whether they are those of functions.
func goals(x *api.Line) ([]*int, bool) {
	var to []*int
	switch {
	case x.Op >= api.MacBEQ && x.Op <= api.MacJML:
		return []*int{&x.Label}, false
	case x.Op == api.MacCALL:
		return []*int{&x.Label}, true
	case x.Op == api.MacJTAB:
		for i := range x.List {
			to = append(to, &x.List[i])
		}
	}
	return to, false
}

// wrongLabels tells what of Z1 does not hold of the labels of a function's lines; it is empty, if all does.
func wrongLabels(l []api.Line, f, first, next, funcs int) string {
	if len(l) == 0 || !reflect.DeepEqual(l[0], api.Line{Op: api.LineLabel, Label: f}) {
		return "the first line is another one"
	}
	if next < first || next > api.MaxLabel+1 {
		return fmt.Sprintf("the labels from %d on end with %d", first, next)
	}
	stand := make([]int, next-first)
	for i := range l {
		if l[i].Op == api.LineLabel && i > 0 {
			if l[i].Label < first || l[i].Label >= next {
				return fmt.Sprintf("the label %d stands", l[i].Label)
			}
			stand[l[i].Label-first]++
		}
		to, calls := goals(&l[i])
		for _, label := range to {
			if calls && (*label < 0 || *label >= funcs) || !calls && (*label < first || *label >= next) {
				return fmt.Sprintf("the line %d goes to %d", i, *label)
			}
		}
	}
	for i, n := range stand {
		if n != 1 {
			return fmt.Sprintf("the label %d stands %d times", first+i, n)
		}
	}
	return ""
}

// wrongLines tells what of a function's lines the assembler refuses, beside labels for the functions that are called; of words that are too many it does not tell.
func wrongLines(l []api.Line, f, funcs int) string {
	l = slices.Clone(l)
	for other := range funcs {
		if other != f && len(l) < api.MaxLines {
			l = append(l, api.Line{Op: api.LineLabel, Label: other})
		}
	}
	if _, i, e := relax.Assemble(l); e != api.OK && e != api.ErrTooBig {
		return fmt.Sprintf("the line %d may not be: %d", i, e)
	}
	return ""
}

// longWords is how many words lines make, all branches long.
func longWords(l []api.Line) int {
	words := 0
	for _, x := range l {
		switch {
		case x.Op == api.LineLabel:
		case x.Op >= api.MacBEQ && x.Op <= api.MacBGTU:
			words += 3
		case x.Op == api.MacJMP || x.Op == api.MacJML || x.Op == api.MacCALL || x.Op == api.MacLIT:
			words += 2
		case x.Op == api.MacJTAB:
			words += 2 + len(x.List)
		default:
			words++
		}
	}
	return words
}

// size is a graph's size, as the chapter counts it.
func size(g api.Graph) int {
	n := 1 + g.Temps + len(g.Blocks)
	for _, b := range g.Blocks {
		n += len(b.Code) + len(b.End.Cases) + len(b.End.Targets)
	}
	return n
}

// moved are lines whose own labels are moved.
func moved(l []api.Line, by int) []api.Line {
	l = slices.Clone(l)
	for i := range l {
		l[i].List = slices.Clone(l[i].List)
		to, calls := goals(&l[i])
		if l[i].Op == api.LineLabel && i > 0 {
			to = append(to, &l[i].Label)
		}
		for _, label := range to {
			if !calls {
				*label += by
			}
		}
	}
	return l
}

// refused checks that a function's lines are refused.
func refused(t *testing.T, m api.Module, f, label int, want api.Errno) {
	t.Helper()
	if l, next, e := emit.Emit(m, f, label); e != want || len(l) != 0 || next != 0 {
		t.Errorf("%d, from %d on: %d lines, %d, %d, want %d: %s", f, label, len(l), next, e, want, short(m))
	}
}

// TestExamples has the chapter's.
func TestExamples(t *testing.T) {
	m := of(fn(0, block(back(-1))))
	if l, _ := emitted(t, m, 0, 1); !reflect.DeepEqual(l[0], api.Line{Op: api.LineLabel}) {
		t.Errorf("%+v", l)
	}
	refused(t, m, 1, 1, api.ErrArg)
	refused(t, m, 0, 0, api.ErrArg)
	refused(t, m, 0, 100001, api.ErrArg)
}
