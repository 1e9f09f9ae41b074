package list_test

import (
	"reflect"
	"slices"
	"strings"
	"testing"

	"switchback/api"
	"switchback/list"
	"switchback/sample"
)

// copyOf is a list in memory of its own.
func copyOf(l []api.Line) []api.Line {
	l = slices.Clone(l)
	for i := range l {
		l[i].List = slices.Clone(l[i].List)
	}
	return l
}

// same tells whether lists have the same lines. (A list without elements may be nil or not.)
func same(a, b []api.Line) bool {
	return slices.EqualFunc(a, b, func(x, y api.Line) bool {
		lists := slices.Equal(x.List, y.List)
		x.List, y.List = nil, nil
		return lists && reflect.DeepEqual(x, y)
	})
}

// short is the beginning of a text.
func short(s string) string {
	if len(s) > 300 {
		return s[:300] + "..."
	}
	return s
}

// write checks what Print tells of a list.
func write(t *testing.T, l []api.Line) (string, api.Errno) {
	t.Helper()
	before := copyOf(l)
	s, e := list.Print(l)
	if !same(l, before) {
		t.Fatalf("changed: %v", before)
	}
	want, f := printed(l)
	if s != want || e != f {
		t.Fatalf("%q, %d, want %q, %d", short(s), e, short(want), f)
	}
	return s, e
}

// read checks what Parse tells of a text.
func read(t *testing.T, s string) ([]api.Line, int, api.Errno) {
	t.Helper()
	l, i, e := list.Parse(s)
	want, at, f := parsed(s)
	if !same(l, want) || i != at || e != f {
		t.Fatalf("%q: %d lines, %d, %d, want %d, %d, %d", short(s), len(l), i, e, len(want), at, f)
	}
	var lists [][]int
	for _, x := range l {
		lists = append(lists, x.List)
	}
	if !sample.Apart(lists...) {
		t.Fatalf("%q: two lists share memory", short(s))
	}
	return l, i, e
}

// none checks that the line number at is the first one of a text that is none.
func none(t *testing.T, s string, at int) {
	t.Helper()
	if l, i, e := read(t, s); len(l) != 0 || i != at || e != api.ErrListText {
		t.Errorf("%q: %v, %d, %d, want %d", short(s), l, i, e, at)
	}
}

// lines checks that a text has just these lines.
func lines(t *testing.T, s string, want ...api.Line) {
	t.Helper()
	if l, i, e := read(t, s); !same(l, want) || i != 0 || e != api.OK {
		t.Errorf("%q: %v, %d, %d, want %v", short(s), l, i, e, want)
	}
}

// ret is the line that is as short as lines are.
var ret = api.Line{Op: api.MacRET}

func TestExamples(t *testing.T) {
	l := []api.Line{
		{Op: api.LineLabel, Label: 7}, {Op: api.MacLI, A: 3, Imm: -2}, {Op: api.MacADD, A: 1, B: 2, Imm: 11}, {Op: api.MacST, B: 11, Imm: 4},
		{Op: api.MacBEQ, B: 1, Label: 7}, {Op: api.MacJTAB, A: 9, List: []int{7, 8}}, {Op: api.MacLIT, A: 2, N: 4294967295}, ret, {Op: api.MacTRAP, Imm: 3},
	}
	const text = "L7:\nLI R3 -2\nADD R1 R2 R11\nST R0 R11 4\nBEQ R0 R1 L7\nJTAB R9 L7 L8\nLIT R2 4294967295\nRET\nTRAP 3\n"
	if s, e := write(t, l); s != text || e != api.OK {
		t.Errorf("%q, %d", s, e)
	}
	lines(t, text, l...)
	lines(t, " RET ; so\n\nJMP\tL0", ret, api.Line{Op: api.MacJMP})
	for _, s := range []string{"ret", "RET R1", "LI R3 -0", "LI R03 1", "LI R12 1", "L7 :", "JTAB R1", "LIT R1 -1"} {
		none(t, s, 0)
	}
	none(t, "RET\nx", 1)
}

// TestNothing has lists and texts that say nothing.
func TestNothing(t *testing.T) {
	for _, l := range [][]api.Line{nil, {}} {
		if s, e := write(t, l); s != "" || e != api.OK {
			t.Errorf("%q, %d", s, e)
		}
	}
	for _, s := range []string{"", "\n", "\n\n\n", " ", "\t", ";", ";;", "; RET", " \t ;\n;x\n\t\n", ";\xff", ";\x00\n ;é", "\n ; L7:\n;"} {
		lines(t, s)
	}
}

// TestEachWord has each Op with its fields one by one, written out.
func TestEachWord(t *testing.T) {
	for _, x := range []struct {
		text string
		line api.Line
	}{
		{"L0:", api.Line{}},
		{"L100000:", api.Line{Label: 100000}},
		{"LI R11 32767", api.Line{Op: 1, A: 11, Imm: 32767}},
		{"LIT R10 0", api.Line{Op: 2, A: 10}},
		{"MOV R1 R2", api.Line{Op: 3, A: 1, B: 2}},
		{"ADDI R2 R1 -32768", api.Line{Op: 4, A: 2, B: 1, Imm: -32768}},
		{"SUB R3 R4 R5", api.Line{Op: 6, A: 3, B: 4, Imm: 5}},
		{"LEU R0 R0 R9", api.Line{Op: 23, Imm: 9}},
		{"NEG R0 R0", api.Line{Op: 24}},
		{"LOW R7 R8", api.Line{Op: 26, A: 7, B: 8}},
		{"LD R7 R8 -9", api.Line{Op: 27, A: 7, B: 8, Imm: -9}},
		{"CHK R5 R6", api.Line{Op: 29, A: 5, B: 6}},
		{"BGTU R3 R4 L99999", api.Line{Op: 39, A: 3, B: 4, Label: 99999}},
		{"JMP L1", api.Line{Op: 40, Label: 1}},
		{"JML L2", api.Line{Op: 41, Label: 2}},
		{"JTAB R0 L0", api.Line{Op: 42, List: []int{0}}},
		{"JTAB R5 L3 L2 L3", api.Line{Op: 42, A: 5, List: []int{3, 2, 3}}},
		{"CALL L3", api.Line{Op: 43, Label: 3}},
		{"GETC R4", api.Line{Op: 45, A: 4}},
		{"PUTC R5", api.Line{Op: 46, A: 5}},
		{"EXIT R6", api.Line{Op: 47, A: 6}},
		{"TRAP 0", api.Line{Op: 48}},
		{"TRAP 255", api.Line{Op: 48, Imm: 255}},
	} {
		if s, e := write(t, []api.Line{x.line}); s != x.text+"\n" || e != api.OK {
			t.Errorf("%q, %d, want %q", s, e, x.text)
		}
		lines(t, x.text, x.line)
		lines(t, x.text+";RET", x.line)
		lines(t, "\n\t"+strings.ReplaceAll(x.text, " ", "  \t")+" \t; \xff\n\n"+x.text, x.line, x.line)
	}
}

// TestNames has the names in the order of the Ops' numbers.
func TestNames(t *testing.T) {
	names := strings.Fields("LI LIT MOV ADDI ADD SUB MUL DIVS DIVU REMS REMU AND OR XOR SHL SHRS SHRU EQ NE LTS LTU LES LEU NEG NOT LOW LD ST CHK BEQ BNE BLTS BGES BLES BGTS BLTU BGEU BLEU BGTU JMP JML JTAB CALL RET GETC PUTC EXIT TRAP")
	for i, name := range names {
		x := api.Line{Op: i + 1}
		if x.Op == api.MacJTAB {
			x.List = []int{5}
		}
		s, e := write(t, []api.Line{x})
		if word := strings.Fields(s); e != api.OK || word[0] != name {
			t.Errorf("%d: %q, want %s", i+1, s, name)
		}
		lines(t, s, x)
		none(t, strings.ToLower(s), 0)
		read(t, s[:len(name)-1]+s[len(name):])
		none(t, "RET\n"+name+s, 1)
		none(t, s[:len(s)-1]+" RET", 0)
		none(t, s[:len(s)-1]+" 0", 0)
		none(t, s[:len(s)-1]+" R0", 0)
		none(t, s[:len(s)-1]+" L0:", 0)
		if x.Op != api.MacJTAB {
			none(t, s[:len(s)-1]+" L0", 0)
		}
		if words := strings.Fields(s); len(words) > 1 {
			none(t, strings.Join(words[:len(words)-1], " "), 0)
			none(t, strings.Join(words[1:], " "), 0)
			slices.Reverse(words)
			none(t, strings.Join(words, " "), 0)
		}
	}
}

// ends are the numbers at which fields come to an end, and those beyond.
func ends() []int {
	l := []int{-1 << 63, -1 << 32, 1 << 32, 1<<32 + 1, 1<<63 - 1}
	for _, n := range []int{-32768, -128, 0, 11, 127, 255, 32767, 65535, 100000, 1<<32 - 1} {
		l = append(l, n-1, n, n+1)
	}
	return l
}

// TestEachField has each Op with each of its fields at the ends of what it may be, and beyond: as a line, and as a text.
func TestEachField(t *testing.T) {
	t.Parallel()
	for op := -2; op < 51; op++ {
		plain := api.Line{Op: op}
		if op == api.MacJTAB {
			plain.List = []int{1}
		}
		for _, n := range ends() {
			for field := range 8 {
				x := plain
				change(&x, field, n)
				_, e := write(t, []api.Line{x})
				write(t, []api.Line{ret, x, ret})
				if within(op, 0, 48) {
					text := lineText(x)
					l, _, f := read(t, text)
					if e == api.OK && (f != api.OK || !same(l, []api.Line{x})) {
						t.Errorf("%q: %v, %d", text, l, f)
					}
				}
			}
		}
	}
}

// change changes a field of a line.
func change(x *api.Line, field, n int) {
	switch field {
	case 0:
		x.A = n
	case 1:
		x.B = n
	case 2:
		x.Imm = n
	case 3:
		x.N = uint32(n)
	case 4:
		x.Label = n
	case 5:
		x.List = []int{n}
	case 6:
		x.List = []int{5, n, 6}
	case 7:
		x.List = make([]int, max(0, min(n, 5000)))
	}
}

// TestNumbersThatAreNone has words with numbers that are none, or too great for all fields.
func TestNumbersThatAreNone(t *testing.T) {
	for _, n := range []string{"", "-", "+1", "--1", "-0", "00", "01", "-01", "0x1", "1_0", "1e1", "1.", "1,", "a", "٣", "１", "1L", "R1", "L1", "L1:", "4294967296", "4294967297", "18446744073709551616", "18446744073709551617", "-18446744073709551615", strings.Repeat("9", 400), strings.Repeat("0", 400) + "1", "1\r", "\v1", "1\x00", "\xff", "1\u00a0", "\u00851", "1\u2028"} {
		for _, head := range []string{"LI R1 ", "LD R1 R2 ", "TRAP ", "LIT R1 ", "GETC R", "MOV R1 R", "ADD R1 R2 R", "JMP L", "BEQ R1 R2 L", "JTAB R1 L2 L", "CALL L", "L", "R"} {
			none(t, head+n, 0)
			none(t, "RET\n\nL1:\n"+head+n+":\nx", 3)
		}
	}
}

// TestWordsThatAreNone has words beside those that a line has.
func TestWordsThatAreNone(t *testing.T) {
	for _, s := range []string{"L1", "l1:", "L1::", ":", "L:", "L1 :", ":L1", "L1: L1:", "L1: RET", "RET L1:", "R1", "1", "RETRET", "RET RET", "RET,", "RET\r", "\ufeffRET", "RET\xff;", "RET\u00a0", "R ET", "LI", "LI R1", "LI 5 R1", "LI R1 5 5", "LI R1 R5", "LI R1 L5", "LI R1, 5", "LI r1 5", "ADD R1 R2", "ADD R1 R2 5", "ADD R1 R2 R3 R4", "ADD R1 R2 R3 0", "MOV R1 R2 R0", "MOV R1", "JMP", "JMP 1", "JMP L1 L1", "JMP R1", "JMP L1:", "JMP l1", "BEQ R0 R1 5", "BEQ R0 R1", "BEQ R0 L1 R1", "BEQ R0 R1 R0 L1", "JTAB L1", "JTAB L1 R1", "JTAB R1 L1 R1", "JTAB R1 L1 5", "JTAB R1 L1 L1:", "JTAB R1 R2 L1", "LIT R1", "LIT R1 R1", "LIT R1 1 1", "TRAP", "TRAP R1", "TRAP 1 1", "TRAP -1", "TRAP 256", "GETC", "GETC 1", "LINE", "NOP", "#", "RET #", "RET //", "\x00", "é", "\xff\xfe"} {
		none(t, s, 0)
		none(t, s+";", 0)
		none(t, "\n;\n\t"+s+"\nx", 2)
		none(t, "RET\n"+s+" ; "+s, 1)
		lines(t, "RET;"+s, ret)
		lines(t, "RET ; "+s+"\n\nRET", ret, ret)
	}
}

// TestHowManyWords has tables with as many labels as there may be, and more.
func TestHowManyWords(t *testing.T) {
	for n, is := range map[int]bool{1: true, 2: true, 399: true, 400: true, 401: false, 402: false, 403: false, 1000: false, 100000: false} {
		x := api.Line{Op: api.MacJTAB, A: 11}
		for i := range n {
			x.List = append(x.List, 100000-i%1000)
		}
		_, e := write(t, []api.Line{x, ret})
		if (e == api.OK) != is {
			t.Errorf("%d labels: %d", n, e)
		}
		if is {
			lines(t, lineText(x)+"\nRET", x, ret)
			none(t, lineText(x)+" x", 0)
			continue
		}
		none(t, lineText(x), 0)
	}
	none(t, strings.Repeat("RET ", 500), 0)
}

// TestLinesThatMayNotBe has lines of which one or more may not be, wherever they stand.
func TestLinesThatMayNotBe(t *testing.T) {
	good := []api.Line{ret, {Op: api.LineLabel, Label: 3}, {Op: api.LineLabel, Label: 3}, {Op: api.MacJMP, Label: 9}, {Op: api.MacJTAB, List: []int{8, 8}}}
	if s, e := write(t, good); s != "RET\nL3:\nL3:\nJMP L9\nJTAB R0 L8 L8\n" || e != api.OK {
		t.Errorf("labels that stand twice or nowhere: %q, %d", s, e)
	}
	for _, x := range []api.Line{{Op: -1}, {Op: 49}, {Op: 300}, {Label: -1}, {Label: 100001}, {Op: api.MacRET, A: 1}, {Op: api.MacJTAB}, {Op: api.MacBEQ, Imm: 1}, {Op: api.MacLI, N: 5}, {Op: api.MacMOV, Label: 3}, {Op: api.MacRET, List: []int{0}}} {
		for i := range len(good) + 1 {
			if s, e := write(t, slices.Insert(copyOf(good), i, x)); s != "" || e != api.ErrArg {
				t.Errorf("%v at %d: %q, %d", x, i, s, e)
			}
		}
	}
}

// TestHowManyLines has as many lines as there may be, and more.
func TestHowManyLines(t *testing.T) {
	t.Parallel()
	all := slices.Repeat([]api.Line{ret}, 60000)
	text, e := write(t, all)
	if e != api.OK || len(text) != 4*60000 {
		t.Fatalf("%d, %d bytes", e, len(text))
	}
	idle := strings.Repeat(" \n;RET\n\n", 30000)
	for _, s := range []string{text, text[:len(text)-1], text + ";", text + idle, idle + text, strings.ReplaceAll(text, "\n", "\n\n;\n")} {
		lines(t, s, all...)
	}
	for _, s := range []string{text + "RET", "RET\n" + text, text + idle + "L1:", text + text} {
		if l, i, e := read(t, s); len(l) != 0 || i != 0 || e != api.ErrLong {
			t.Errorf("%d lines, %d, %d", len(l), i, e)
		}
	}
	none(t, text+"RET\nx", 60001)
	none(t, text+text+"\nRET\nret\nx", 120002)
	none(t, "x\n"+text+text, 0)
	for _, x := range []api.Line{ret, {Op: 49}, {Op: api.MacRET, A: 1}} {
		if s, e := write(t, append(slices.Clone(all), x)); s != "" || e != api.ErrLong {
			t.Errorf("%d bytes, %d", len(s), e)
		}
	}
	all[59999].B = 1
	if s, e := write(t, all); s != "" || e != api.ErrArg {
		t.Errorf("%d bytes, %d", len(s), e)
	}
}
