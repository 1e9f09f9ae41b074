package relax_test

import "switchback/api"

// The chapters' words, read a second time: slow and plain. Nothing of enc is used here.

// row is what the chapter says a line of some Op has: which registers, from where to where Imm goes, and what else.
type row struct {
	a, b           bool
	least, most    int
	n, label, list bool
}

func rowOf(op int) row {
	switch op {
	case 0, 40, 41, 43: // a label; JMP, JML, CALL
		return row{label: true}
	case 1: // LI
		return row{a: true, least: -32768, most: 32767}
	case 2: // LIT
		return row{a: true, n: true}
	case 3, 24, 25, 26, 29: // MOV, NEG, NOT, LOW, CHK
		return row{a: true, b: true}
	case 4, 27, 28: // ADDI, LD, ST
		return row{a: true, b: true, least: -32768, most: 32767}
	case 42: // JTAB
		return row{a: true, list: true}
	case 44: // RET
		return row{}
	case 45, 46, 47: // GETC, PUTC, EXIT
		return row{a: true}
	case 48: // TRAP
		return row{most: 255}
	}
	if op >= 30 {
		return row{a: true, b: true, label: true}
	}
	return row{a: true, b: true, most: 11}
}

func within(n, least, most int) bool {
	return n >= least && n <= most
}

// mostIf is a number where there is a field, and 0 where there is none.
func mostIf(has bool, most int) int {
	if has {
		return most
	}
	return 0
}

// fits tells whether a line's fields are as they must be.
func fits(x api.Line) bool {
	r := rowOf(x.Op)
	if !within(x.A, 0, mostIf(r.a, 11)) || !within(x.B, 0, mostIf(r.b, 11)) || !within(x.Imm, r.least, r.most) {
		return false
	}
	if !within(x.Label, 0, mostIf(r.label, 100000)) || x.N != 0 && !r.n {
		return false
	}
	for _, label := range x.List {
		if !within(label, 0, 100000) {
			return false
		}
	}
	return within(len(x.List), mostIf(r.list, 1), mostIf(r.list, 400))
}

// refused is what X1 says of a list, but for ErrTooBig.
func refused(l []api.Line) (int, api.Errno) {
	if len(l) > 60000 {
		return 0, api.ErrLong
	}
	stand := map[int]bool{}
	for i, x := range l {
		switch {
		case x.Op < 0 || x.Op > 48:
			return i, api.ErrRelaxOp
		case !fits(x):
			return i, api.ErrRelaxOperand
		case x.Op == 0 && stand[x.Label]:
			return i, api.ErrRelaxTwice
		case x.Op == 0:
			stand[x.Label] = true
		}
	}
	for i, x := range l {
		goals := x.List
		if x.Op != 0 && rowOf(x.Op).label {
			goals = []int{x.Label}
		}
		for _, label := range goals {
			if !stand[label] {
				return i, api.ErrRelaxLabel
			}
		}
	}
	return 0, api.OK
}

func isBranch(x api.Line) bool {
	return within(x.Op, 30, 40)
}

// size is how many words a line makes.
func size(x api.Line, long bool) int {
	switch {
	case x.Op == 0:
		return 0
	case isBranch(x) && !long:
		return 1
	case x.Op == 2 || x.Op == 40 || x.Op == 41 || x.Op == 43:
		return 2
	case isBranch(x):
		return 3
	case x.Op == 42:
		return 2 + len(x.List)
	}
	return 1
}

// layout is where everything stands by some forms: each line, what stands behind them all, and each label.
type layout struct {
	lines  []int
	labels map[int]int
}

func laid(l []api.Line, long []bool) layout {
	y := layout{labels: map[int]int{}}
	at := 0
	for i, x := range l {
		y.lines = append(y.lines, at)
		if x.Op == 0 {
			y.labels[x.Label] = at
		}
		at += size(x, long[i])
	}
	y.lines = append(y.lines, at)
	return y
}

// reach is the displacement of a line that is short: its word's next one stands one place behind.
func (y layout) reach(l []api.Line, i int) int {
	return y.labels[l[i].Label] - (y.lines[i] + 1)
}

// tooFar are the short branches that do not reach.
func (y layout) tooFar(l []api.Line, long []bool) []int {
	var far []int
	for i, x := range l {
		if isBranch(x) && !long[i] && !within(y.reach(l, i), -128, 127) {
			far = append(far, i)
		}
	}
	return far
}

// rounds does rounds as the chapter tells them, and tells which branches are long, and how many rounds were done.
func rounds(l []api.Line) ([]bool, int) {
	long := make([]bool, len(l))
	for n := 1; ; n++ {
		far := laid(l, long).tooFar(l, long)
		if len(far) == 0 {
			return long, n
		}
		for _, i := range far {
			long[i] = true
		}
	}
}

func word(op, a, b, imm int) uint32 {
	if imm < 0 {
		imm += 65536
	}
	return uint32(op*1<<24 + a*1<<20 + b*1<<16 + imm)
}

// otherOf is the branch that goes where one does not.
func otherOf(op int) int {
	for _, pair := range [][2]int{{api.MacBEQ, api.MacBNE}, {api.MacBLTS, api.MacBGES}, {api.MacBLES, api.MacBGTS}, {api.MacBLTU, api.MacBGEU}, {api.MacBLEU, api.MacBGTU}} {
		switch op {
		case pair[0]:
			return pair[1]
		case pair[1]:
			return pair[0]
		}
	}
	return 0
}

// wordsOf are the words of the line i, and their kinds.
func (y layout) wordsOf(l []api.Line, i int, long bool) ([]uint32, []int) {
	x := l[i]
	to := uint32(y.labels[x.Label])
	switch {
	case x.Op == 0:
		return nil, nil
	case isBranch(x) && !long:
		return []uint32{word(x.Op, x.A, x.B, y.reach(l, i))}, []int{1}
	case x.Op == 40 || x.Op == 41:
		return []uint32{word(41, 0, 0, 0), to}, []int{1, 2}
	case isBranch(x):
		return []uint32{word(otherOf(x.Op), x.A, x.B, 2), word(41, 0, 0, 0), to}, []int{1, 1, 2}
	case x.Op == 43:
		return []uint32{word(43, 0, 0, 0), to}, []int{1, 2}
	case x.Op == 2:
		return []uint32{word(2, x.A, 0, 0), x.N}, []int{1, 2}
	case x.Op == 42:
		words, kinds := []uint32{word(42, x.A, 0, 0), uint32(len(x.List))}, []int{1, 3}
		for _, label := range x.List {
			words, kinds = append(words, uint32(y.labels[label])), append(kinds, 3)
		}
		return words, kinds
	}
	return []uint32{word(x.Op, x.A, x.B, x.Imm)}, []int{1}
}

// written is what a list is to become.
func written(l []api.Line) (api.Assembly, int, api.Errno) {
	if i, e := refused(l); e != api.OK {
		return api.Assembly{}, i, e
	}
	long, n := rounds(l)
	y := laid(l, long)
	if y.lines[len(l)] > 65536 {
		return api.Assembly{}, 0, api.ErrTooBig
	}
	a := api.Assembly{Places: y.lines[:len(l)], Rounds: n}
	for i := range l {
		words, kinds := y.wordsOf(l, i, long[i])
		a.Words, a.Kinds = append(a.Words, words...), append(a.Kinds, kinds...)
	}
	return a, 0, api.OK
}
