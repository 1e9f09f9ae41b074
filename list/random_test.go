package list_test

import (
	"math/rand"
	"reflect"
	"strings"
	"testing"

	"switchback/api"
	"switchback/list"
	"switchback/relax"
	"switchback/sample"
)

// mustPrint is the text of a list that may be.
func mustPrint(t *testing.T, l []api.Line) string {
	t.Helper()
	s, e := write(t, l)
	if e != api.OK {
		t.Fatalf("%v: %d", l, e)
	}
	return s
}

// TestBack has lists that are written and read again (P22.1), as a whole and line by line (P22.5), and assembled (P22.6).
func TestBack(t *testing.T) {
	t.Parallel()
	for i := range uint64(1500) {
		l := sample.Lines(i)
		s := mustPrint(t, l)
		lines(t, s, l...)
		got, _, _ := list.Parse(s)
		a, at, e := relax.Assemble(l)
		b, place, f := relax.Assemble(got)
		if !reflect.DeepEqual(a, b) || at != place || e != f {
			t.Fatalf("%d: assembled otherwise: %d at %d, %d at %d", i, e, at, f, place)
		}
		if i%5 > 0 {
			continue
		}
		for k, text := range strings.SplitAfter(s, "\n") {
			if k < len(l) {
				lines(t, text, l[k])
				lines(t, strings.TrimSuffix(text, "\n"), l[k])
			}
		}
	}
}

// TestAssembledAlike has lists with labels that stand twice or nowhere: what is read of their texts is refused alike (P22.6).
func TestAssembledAlike(t *testing.T) {
	t.Parallel()
	r := rand.New(rand.NewSource(1))
	seen := map[api.Errno]int{}
	for i := range uint64(3000) {
		l := sample.Lines(i)
		for range r.Intn(3) {
			l[r.Intn(len(l))] = api.Line{Op: r.Intn(2) * api.MacJMP, Label: r.Intn(20)}
		}
		got, _, f := list.Parse(mustPrint(t, l))
		a, at, e := relax.Assemble(l)
		b, place, g := relax.Assemble(got)
		if f != api.OK || at != place || e != g || !reflect.DeepEqual(a, b) {
			t.Fatalf("%d: %d at %d, %d at %d", i, e, at, g, place)
		}
		seen[e]++
	}
	if seen[api.OK] < 500 || seen[api.ErrRelaxTwice] < 50 || seen[api.ErrRelaxLabel] < 200 {
		t.Errorf("%v", seen)
	}
}

// idled is a text with blanks, remarks and lines that say nothing put in, where that changes nothing.
func idled(r *rand.Rand, s string) string {
	any := func(of ...string) string { return of[r.Intn(len(of))] }
	var b strings.Builder
	for _, line := range strings.SplitAfter(s, "\n") {
		for range r.Intn(3) {
			b.WriteString(any("\n", " \n", "\t\t\n", ";\n", " ; RET\n", ";;L1:\n", "\t;\xff\x00é;\n"))
		}
		line, end := strings.CutSuffix(line, "\n")
		b.WriteString(any("", "", " ", "\t", " \t "))
		for i, w := range strings.Split(line, " ") {
			if i > 0 {
				b.WriteString(any(" ", " ", "\t", "  ", "\t \t"))
			}
			b.WriteString(w)
		}
		b.WriteString(any("", "", " ", "\t ", ";", " ;", " ; x", ";RET", "\t;L1:;\r", ";\xff"))
		if end {
			b.WriteString("\n")
		}
	}
	return b.String()
}

// TestBlanks has texts with more blanks, remarks and lines that say nothing (P22.3).
func TestBlanks(t *testing.T) {
	t.Parallel()
	r := rand.New(rand.NewSource(2))
	for i := range uint64(3000) {
		l := sample.Lines(i)
		lines(t, idled(r, mustPrint(t, l)), l...)
	}
}

// spoilt is a text in which something is otherwise.
func spoilt(r *rand.Rand, s string) string {
	pieces := []string{"\n", " ", ";", "\t", "L", "R", ":", "-", "0", "1", "9", "RET", "LI", "\r", "\xff", "é", "x", "L1:", " R1", " L1", " 0", "\nJMP L2\n"}
	for range 1 + r.Intn(3) {
		at := r.Intn(len(s) + 1)
		to := min(len(s), at+r.Intn(3))
		switch r.Intn(4) {
		case 0:
			s = s[:at] + s[to:]
		case 1:
			s = s[:at] + pieces[r.Intn(len(pieces))] + s[to:]
		case 2:
			s = s[:at] + pieces[r.Intn(len(pieces))] + s[at:]
		default:
			from := r.Intn(len(s) + 1)
			s = s[:at] + s[from:min(len(s), from+r.Intn(12))] + s[at:]
		}
	}
	return s
}

// TestSpoiltTexts has texts that were spoilt here and there; what is taken is written and read again (P22.2).
func TestSpoiltTexts(t *testing.T) {
	t.Parallel()
	r := rand.New(rand.NewSource(3))
	seen := map[api.Errno]int{}
	for i := range uint64(4000) {
		l := sample.Lines(i)
		l = l[:min(len(l), 1+r.Intn(30))]
		s := mustPrint(t, l)
		if r.Intn(2) == 0 {
			s = idled(r, s)
		}
		for range 5 {
			got, _, e := read(t, spoilt(r, s))
			seen[e]++
			if e == api.OK {
				lines(t, mustPrint(t, got), got...)
			}
		}
	}
	if seen[api.OK] < 3000 || seen[api.ErrListText] < 8000 {
		t.Errorf("%v", seen)
	}
}

// TestAnyTexts has texts of a few bytes, put together anyhow.
func TestAnyTexts(t *testing.T) {
	t.Parallel()
	r := rand.New(rand.NewSource(4))
	pieces := []string{"\n", "\n", " ", " ", ";", "\t", "L1:", "L0", "R1", "R11", "R12", "-1", "0", "7", "256", "RET", "LI", "LIT", "ADD", "BEQ", "JMP", "JTAB", "TRAP", "MOV", ":", "\xff"}
	taken := 0
	for range 100000 {
		s := ""
		for range r.Intn(9) {
			s += pieces[r.Intn(len(pieces))]
			if r.Intn(3) > 0 {
				s += " "
			}
		}
		if l, _, e := read(t, s); e == api.OK && len(l) > 0 {
			taken++
		}
	}
	if taken < 1000 {
		t.Errorf("only %d taken", taken)
	}
}

// TestPutTogether has two texts, the first one of which is empty or ends with a line feed, put together (P22.4).
func TestPutTogether(t *testing.T) {
	t.Parallel()
	r := rand.New(rand.NewSource(5))
	for i := range uint64(2000) {
		a, b := sample.Lines(i), sample.Lines(r.Uint64())
		a = a[:r.Intn(len(a)+1)]
		first, second := idled(r, mustPrint(t, a)), idled(r, mustPrint(t, b))
		if first != "" && !strings.HasSuffix(first, "\n") {
			first += "\n"
		}
		lines(t, first+second, append(copyOf(a), b...)...)
	}
}

// TestNewMemory has lists and what is read of their texts: they share no memory.
func TestNewMemory(t *testing.T) {
	t.Parallel()
	for i := range uint64(300) {
		l := sample.Lines(i)
		s := mustPrint(t, l)
		got, _, _ := list.Parse(s)
		again, _, _ := list.Parse(s)
		if !sample.Apart(l, got, again) {
			t.Fatalf("%d: lines share memory", i)
		}
		again = again[:cap(again)]
		clear(again)
		if !same(got, l) {
			t.Fatalf("%d: changed by what was done to another answer", i)
		}
	}
}
