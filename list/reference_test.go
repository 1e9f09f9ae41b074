package list_test

import (
	"fmt"
	"regexp"
	"slices"
	"strconv"
	"strings"

	"switchback/api"
)

// rows are the chapters' words of each Op's lines, in the order of their numbers: a, b and c are the registers A, B and Imm, i is Imm, h is Imm of a trap, n is N, l is Label, t is List.
const rows = `LI ai
LIT an
MOV ab
ADDI abi
ADD abc
SUB abc
MUL abc
DIVS abc
DIVU abc
REMS abc
REMU abc
AND abc
OR abc
XOR abc
SHL abc
SHRS abc
SHRU abc
EQ abc
NE abc
LTS abc
LTU abc
LES abc
LEU abc
NEG ab
NOT ab
LOW ab
LD abi
ST abi
CHK ab
BEQ abl
BNE abl
BLTS abl
BGES abl
BLES abl
BGTS abl
BLTU abl
BGEU abl
BLEU abl
BGTU abl
JMP l
JML l
JTAB at
CALL l
RET
GETC a
PUTC a
EXIT a
TRAP h`

var rowsOfOps = strings.Split(rows, "\n")

// row is the name of an Op and the letters of its fields.
func row(op int) (string, string) {
	name, letters, _ := strings.Cut(rowsOfOps[op-1], " ")
	return name, letters
}

func within(n, least, most int) bool { return n >= least && n <= most }

// isLine tells whether a line may be.
func isLine(x api.Line) bool {
	if !within(x.Op, 0, 48) {
		return false
	}
	letters := "l"
	if x.Op > 0 {
		_, letters = row(x.Op)
	}
	for _, letter := range letters {
		fits := true
		switch letter {
		case 'a':
			fits, x.A = within(x.A, 0, 11), 0
		case 'b':
			fits, x.B = within(x.B, 0, 11), 0
		case 'c':
			fits, x.Imm = within(x.Imm, 0, 11), 0
		case 'i':
			fits, x.Imm = within(x.Imm, -32768, 32767), 0
		case 'h':
			fits, x.Imm = within(x.Imm, 0, 255), 0
		case 'n':
			x.N = 0
		case 'l':
			fits, x.Label = within(x.Label, 0, 100000), 0
		case 't':
			fits = within(len(x.List), 1, 400) && !slices.ContainsFunc(x.List, func(n int) bool { return !within(n, 0, 100000) })
			x.List = nil
		}
		if !fits {
			return false
		}
	}
	return x.A == 0 && x.B == 0 && x.Imm == 0 && x.N == 0 && x.Label == 0 && len(x.List) == 0
}

// lineText is a line's text.
func lineText(x api.Line) string {
	if x.Op == 0 {
		return fmt.Sprintf("L%d:", x.Label)
	}
	s, letters := row(x.Op)
	for _, letter := range letters {
		switch letter {
		case 'a':
			s += fmt.Sprintf(" R%d", x.A)
		case 'b':
			s += fmt.Sprintf(" R%d", x.B)
		case 'c':
			s += fmt.Sprintf(" R%d", x.Imm)
		case 'i', 'h':
			s += fmt.Sprintf(" %d", x.Imm)
		case 'n':
			s += fmt.Sprintf(" %d", x.N)
		case 'l':
			s += fmt.Sprintf(" L%d", x.Label)
		case 't':
			labels := make([]string, len(x.List))
			for i, n := range x.List {
				labels[i] = fmt.Sprintf(" L%d", n)
			}
			s += strings.Join(labels, "")
		}
	}
	return s
}

// printed is what Print tells.
func printed(l []api.Line) (string, api.Errno) {
	if len(l) > 60000 {
		return "", api.ErrLong
	}
	var b strings.Builder
	for _, x := range l {
		if !isLine(x) {
			return "", api.ErrArg
		}
		b.WriteString(lineText(x) + "\n")
	}
	return b.String(), api.OK
}

// The shapes of words.
const (
	registerShape = `R(0|[1-9]|10|11)`
	numberShape   = `(0|-?[1-9][0-9]{0,9})`
	labelShape    = `L(0|[1-9][0-9]{0,4}|100000)`
)

// lineShapes are the shapes of each Op's lines.
func lineShapes() []*regexp.Regexp {
	pieces := map[rune]string{'a': registerShape, 'b': registerShape, 'c': registerShape, 'i': numberShape, 'h': numberShape, 'n': numberShape, 'l': labelShape, 't': `(` + labelShape + `(?: ` + labelShape + `)*)`}
	shapes := []*regexp.Regexp{regexp.MustCompile(`^` + labelShape + `:$`)}
	for op := 1; op <= 48; op++ {
		shape, letters := row(op)
		for _, letter := range letters {
			shape += " " + pieces[letter]
		}
		shapes = append(shapes, regexp.MustCompile("^"+shape+"$"))
	}
	return shapes
}

var shapesOfLines = lineShapes()

// opIn is the Op of the line whose text is handed in, if there is one.
func opIn(s string) int {
	name, _, _ := strings.Cut(s, " ")
	for op := 1; op <= 48; op++ {
		if other, _ := row(op); other == name {
			return op
		}
	}
	return 0
}

// lineIn is the line whose text is handed in, if it may be.
func lineIn(s string) (api.Line, bool) {
	if s == "RET" {
		return api.Line{Op: api.MacRET}, true
	}
	x := api.Line{Op: opIn(s)}
	found := shapesOfLines[x.Op].FindStringSubmatch(s)
	if found == nil {
		return x, false
	}
	letters := "l"
	if x.Op > 0 {
		_, letters = row(x.Op)
	}
	for i, letter := range letters {
		n, _ := strconv.Atoi(found[1+i])
		switch letter {
		case 'a':
			x.A = n
		case 'b':
			x.B = n
		case 'c', 'i', 'h':
			x.Imm = n
		case 'n':
			if !within(n, 0, 1<<32-1) {
				return x, false
			}
			x.N = uint32(n)
		case 'l':
			x.Label = n
		case 't':
			for _, w := range strings.Split(found[1+i], " ") {
				n, _ := strconv.Atoi(w[1:])
				x.List = append(x.List, n)
			}
		}
	}
	return x, isLine(x)
}

// said are the words of each of a text's lines, with a blank between.
func said(s string) []string {
	lines := strings.Split(s, "\n")
	for i, x := range lines {
		x, _, _ = strings.Cut(x, ";")
		lines[i] = strings.Join(strings.FieldsFunc(x, func(c rune) bool { return c == 32 || c == 9 }), " ")
	}
	return lines
}

// parsed is what Parse tells.
func parsed(s string) ([]api.Line, int, api.Errno) {
	var l []api.Line
	for i, text := range said(s) {
		if text == "" {
			continue
		}
		x, is := lineIn(text)
		if !is {
			return nil, i, api.ErrListText
		}
		l = append(l, x)
	}
	if len(l) > 60000 {
		return nil, 0, api.ErrLong
	}
	return l, 0, api.OK
}
