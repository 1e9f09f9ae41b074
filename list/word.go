package list

import (
	"strconv"
	"strings"

	"switchback/api"
)

// A word of a line is one of these.
type (
	name     int // that of an Op
	register int
	label    int
	mark     int // a label that stands there
	number   int
)

// names are the names of the Ops.
var names = [...]string{
	api.MacLI: "LI", api.MacLIT: "LIT", api.MacMOV: "MOV", api.MacADDI: "ADDI",
	api.MacADD: "ADD", api.MacSUB: "SUB", api.MacMUL: "MUL",
	api.MacDIVS: "DIVS", api.MacDIVU: "DIVU", api.MacREMS: "REMS", api.MacREMU: "REMU",
	api.MacAND: "AND", api.MacOR: "OR", api.MacXOR: "XOR",
	api.MacSHL: "SHL", api.MacSHRS: "SHRS", api.MacSHRU: "SHRU",
	api.MacEQ: "EQ", api.MacNE: "NE",
	api.MacLTS: "LTS", api.MacLTU: "LTU", api.MacLES: "LES", api.MacLEU: "LEU",
	api.MacNEG: "NEG", api.MacNOT: "NOT", api.MacLOW: "LOW",
	api.MacLD: "LD", api.MacST: "ST", api.MacCHK: "CHK",
	api.MacBEQ: "BEQ", api.MacBNE: "BNE",
	api.MacBLTS: "BLTS", api.MacBGES: "BGES", api.MacBLES: "BLES", api.MacBGTS: "BGTS",
	api.MacBLTU: "BLTU", api.MacBGEU: "BGEU", api.MacBLEU: "BLEU", api.MacBGTU: "BGTU",
	api.MacJMP: "JMP", api.MacJML: "JML", api.MacJTAB: "JTAB", api.MacCALL: "CALL", api.MacRET: "RET",
	api.MacGETC: "GETC", api.MacPUTC: "PUTC", api.MacEXIT: "EXIT", api.MacTRAP: "TRAP",
}

// opsByName are the Ops by their names.
func opsByName() map[string]int {
	ops := map[string]int{}
	for op, s := range names {
		if op != api.LineLabel {
			ops[s] = op
		}
	}
	return ops
}

// text is a word as it is written.
func text(word any) string {
	switch w := word.(type) {
	case name:
		return names[w]
	case register:
		return "R" + strconv.Itoa(int(w))
	case label:
		return "L" + strconv.Itoa(int(w))
	case mark:
		return "L" + strconv.Itoa(int(w)) + ":"
	case number:
		return strconv.Itoa(int(w))
	}
	return ""
}

// write writes words with one blank between each two.
func write(b *strings.Builder, words []any) {
	for i, w := range words {
		if i > 0 {
			b.WriteByte(' ')
		}
		b.WriteString(text(w))
	}
}

// wordOf tells which word a text is; nil, if it is none.
func wordOf(s string, ops map[string]int) any {
	if op, is := ops[s]; is {
		return name(op)
	}
	if n, is := decimal(s); is {
		return number(n)
	}
	if n, is := decimalBehind("R", s); is {
		return register(n)
	}
	if n, is := decimalBehind("L", s); is {
		return label(n)
	}
	if s, is := strings.CutSuffix(s, ":"); is {
		if n, is := decimalBehind("L", s); is {
			return mark(n)
		}
	}
	return nil
}

// decimal tells which number a text is, if it is one as numbers are written.
func decimal(s string) (int, bool) {
	n, e := strconv.Atoi(s)
	return n, e == nil && strconv.Itoa(n) == s
}

func decimalBehind(letter, s string) (int, bool) {
	s, is := strings.CutPrefix(s, letter)
	if !is {
		return 0, false
	}
	return decimal(s)
}
