package sample

import "switchback/api"

// Lines is an assembler list that may be, each label of which stands once; which one, the number says. Its branches go near and far, forward and backward; not all lists end when they run.
func Lines(number uint64) []api.Line {
	w := liner{dice: dice{number}}
	w.name()
	w.room = 1 + w.below(40)
	if w.one(4) {
		w.room += w.below(400)
	}
	if !w.one(4) {
		w.begin()
	}
	for len(w.lines) < w.room {
		w.line()
	}
	l := w.labelled()
	if !w.one(4) {
		l = append(l, api.Line{Op: api.MacEXIT, A: w.register()})
	}
	return l
}

// liner writes a list.
type liner struct {
	dice
	labels []int // in the order in which they stand in the end
	spare  []int // labels that stand nowhere yet
	lines  []api.Line
	room   int // about how many lines there are in the end
}

// name chooses the labels: some numbers beside one another, at times the first ones or the last ones that may be.
func (w *liner) name() {
	n := 1 + w.below(12)
	first := 1 + w.below(1000)
	switch w.below(6) {
	case 0:
		first = 0
	case 1:
		first = api.MaxLabel + 1 - n
	}
	for i := range n {
		w.labels = append(w.labels, first+i)
		other := w.below(i + 1)
		w.labels[i], w.labels[other] = w.labels[other], w.labels[i]
	}
	for i := range w.below(4) {
		w.spare = append(w.spare, 2000+i)
	}
}

// labelled is the list with its labels, which stand about as far from one another.
func (w *liner) labelled() []api.Line {
	behind := make([][]int, len(w.lines)+1)
	for i, label := range w.labels {
		at := (i*len(behind) + w.below(len(behind))) / len(w.labels)
		behind[at] = append(behind[at], label)
	}
	var l []api.Line
	for i, at := range behind {
		for _, label := range at {
			l = append(l, api.Line{Op: api.LineLabel, Label: label})
		}
		if i < len(w.lines) {
			l = append(l, w.lines[i])
		}
	}
	return l
}

func (w *liner) put(x api.Line) {
	w.lines = append(w.lines, x)
}

// register is mostly one of a few.
func (w *liner) register() int {
	if w.one(3) {
		return w.below(12)
	}
	return w.below(4)
}

// label is mostly one that stands behind: so runs mostly come to an end.
func (w *liner) label() int {
	n := len(w.labels)
	ahead := min(len(w.lines), w.room-1) * n / w.room
	if w.one(4) {
		ahead = 0
	}
	return w.labels[ahead+w.below(n-ahead)]
}

// number is a number that Imm may be, mostly a small one.
func (w *liner) number() int {
	if w.one(8) {
		return w.below(1<<16) - 1<<15
	}
	return w.below(12) - 3
}

// word is any word, or one at which something comes to an end.
func (w *liner) word() uint32 {
	if w.one(2) {
		return uint32(w.below(1<<16))<<16 | uint32(w.below(1<<16))
	}
	edges := []uint32{0, 1, 2, 31, 32, 255, 256, 1<<31 - 1, 1 << 31, 1<<32 - 2, 1<<32 - 1, api.MemWords - 1, api.MemWords}
	return edges[w.below(len(edges))]
}

// set sets a register to a small number above 0.
func (w *liner) set(register int) {
	w.put(api.Line{Op: api.MacLI, A: register, Imm: 1 + w.below(4)})
}

// begin sets some registers.
func (w *liner) begin() {
	for r := range 1 + w.below(6) {
		w.put(api.Line{Op: api.MacLI, A: r, Imm: w.number()})
	}
}

// line writes a line, and at times one ahead of it that makes it likely to be done without a trap.
func (w *liner) line() {
	switch w.below(24) {
	case 0, 1, 2, 3, 4, 5, 6:
		w.branch()
	case 7:
		w.far()
	case 8:
		w.table()
	case 9:
		w.loop()
	default:
		w.plain()
	}
}

// loop writes lines that are gone through some times, if there is a label for it.
func (w *liner) loop() {
	if len(w.spare) == 0 {
		return
	}
	top, count, nought := w.spare[0], 4+w.below(4), 8+w.below(4)
	w.spare = w.spare[1:]
	w.put(api.Line{Op: api.MacLI, A: count, Imm: w.below(30)})
	w.put(api.Line{Op: api.LineLabel, Label: top})
	for range w.below(8) {
		w.plain()
	}
	if w.one(3) {
		w.line()
	}
	w.put(api.Line{Op: api.MacLI, A: nought})
	w.put(api.Line{Op: api.MacADDI, A: count, B: count, Imm: -1})
	w.put(api.Line{Op: api.MacBGTS, A: count, B: nought, Label: top})
}

// plain writes a line that goes nowhere else.
func (w *liner) plain() {
	switch w.below(14) {
	case 0, 1:
		w.put(api.Line{Op: api.MacMOV, A: w.register(), B: w.register()})
	case 2:
		w.put(api.Line{Op: api.MacNEG + w.below(3), A: w.register(), B: w.register()})
	case 3, 4:
		w.put(api.Line{Op: api.MacADDI, A: w.register(), B: w.register(), Imm: w.number()})
	case 5, 6:
		w.memory()
	case 7:
		w.put(api.Line{Op: api.MacLIT, A: w.register(), N: w.word()})
	case 8, 9, 10:
		w.reckoning()
	case 11:
		w.put(api.Line{Op: api.MacGETC, A: w.register()})
	case 12:
		w.put(api.Line{Op: api.MacPUTC, A: w.register()})
	default:
		w.rare()
	}
}

func (w *liner) branch() {
	if w.one(8) {
		w.put(api.Line{Op: api.MacJMP, Label: w.label()})
		return
	}
	op := api.MacBEQ + w.below(api.MacBGTU-api.MacBEQ+1)
	w.put(api.Line{Op: op, A: w.register(), B: w.register(), Label: w.label()})
}

// far goes anywhere at any length, or comes back from there.
func (w *liner) far() {
	switch w.below(6) {
	case 0:
		w.put(api.Line{Op: api.MacJML, Label: w.label()})
	case 1, 2:
		w.put(api.Line{Op: api.MacCALL, Label: w.label()})
	default:
		w.put(api.Line{Op: api.MacRET})
	}
}

func (w *liner) table() {
	n := 1 + w.below(6)
	if w.one(6) {
		n = 100 + w.below(60)
	}
	if w.one(30) {
		n = api.MaxTable
	}
	x := api.Line{Op: api.MacJTAB, A: w.register(), List: make([]int, n)}
	for i := range x.List {
		x.List[i] = w.label()
	}
	if !w.one(12) {
		w.put(api.Line{Op: api.MacLI, A: x.A, Imm: w.below(min(n, 5))})
	}
	w.put(x)
}

func (w *liner) memory() {
	x := api.Line{Op: api.MacLD + w.below(2), A: w.register(), B: w.register(), Imm: w.number()}
	if !w.one(4) {
		w.set(x.B)
		x.Imm = w.below(4) - 1
	}
	w.put(x)
}

func (w *liner) reckoning() {
	op := api.MacADD + w.below(api.MacLEU-api.MacADD+1)
	x := api.Line{Op: op, A: w.register(), B: w.register(), Imm: w.register()}
	if op >= api.MacDIVS && op <= api.MacREMU && !w.one(4) {
		w.set(x.Imm)
	}
	w.put(x)
}

// rare is what mostly ends a run.
func (w *liner) rare() {
	switch w.below(4) {
	case 0:
		w.put(api.Line{Op: api.MacEXIT, A: w.register()})
	case 1:
		w.put(api.Line{Op: api.MacTRAP, Imm: w.below(256)})
	default:
		x := api.Line{Op: api.MacCHK, A: w.register(), B: w.register()}
		if !w.one(4) {
			w.put(api.Line{Op: api.MacLI, A: x.B, Imm: -1})
		}
		w.put(x)
	}
}
