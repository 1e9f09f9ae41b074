package emu_test

import (
	"math/rand"
	"slices"
	"strings"
	"testing"

	"switchback/api"
	"switchback/emu"
	"switchback/relax"
	"switchback/sample"
)

// assembled is an image of a list.
func assembled(t *testing.T, l []api.Line) api.Image {
	t.Helper()
	a, line, e := relax.Assemble(l)
	if e != api.OK {
		t.Fatalf("%d at %d", e, line)
	}
	return api.Image{Words: a.Words, Kinds: a.Kinds}
}

// dataOf are some words, mostly few.
func dataOf(r *rand.Rand) []uint32 {
	data := make([]uint32, r.Intn(40))
	if r.Intn(100) == 0 {
		data = make([]uint32, r.Intn(10000))
	}
	for i := range data {
		data[i] = uint32(r.Intn(10))
		if r.Intn(3) == 0 {
			data[i] = edges()[r.Intn(len(edges()))]
		}
	}
	return data
}

// anyWord is the word of an instruction that may be, mostly.
func anyWord(r *rand.Rand) uint32 {
	if r.Intn(60) == 0 {
		return r.Uint32()
	}
	c := api.Code{Op: 1 + r.Intn(48), A: r.Intn(12), B: r.Intn(12), Imm: r.Intn(12)}
	w, _ := fitting(c)
	if form, _, _, _, _ := parted(int64(w)); form >= api.MacBEQ && form <= api.MacJMP {
		w = w&^0xffff | uint32(uint16(r.Intn(20)-10))
	}
	return w
}

// anyImage is an image that may be: of a list, of a list's words with others put in their place, or of any words.
func anyImage(t *testing.T, r *rand.Rand) api.Image {
	m := api.Image{}
	switch r.Intn(4) {
	case 0:
		for range 1 + r.Intn(60) {
			m.Words = append(m.Words, anyWord(r))
		}
		if r.Intn(4) == 0 {
			m.Words = slices.Concat(filled(r), m.Words)
		}
	case 1:
		for len(m.Words) == 0 {
			m = assembled(t, sample.Lines(r.Uint64()))
		}
		for range 1 + r.Intn(5) {
			m.Words[r.Intn(len(m.Words))] = []uint32{r.Uint32(), anyWord(r), uint32(r.Intn(len(m.Words) + 3))}[r.Intn(3)]
		}
		m.Entry = r.Intn(len(m.Words))
	default:
		for len(m.Words) == 0 {
			m = assembled(t, sample.Lines(r.Uint64()))
		}
	}
	m.Kinds = anyKinds(r, len(m.Words))
	m.Data = dataOf(r)
	return m
}

func anyKinds(r *rand.Rand, n int) []int {
	kinds := make([]int, n)
	for i := range kinds {
		kinds[i] = 1 + r.Intn(3)
	}
	return kinds
}

// TestAnyImages holds runs of images of all sorts, by fuels of all sorts, against the second machine (M1, P18.1, P18.3).
func TestAnyImages(t *testing.T) {
	t.Parallel()
	r := rand.New(rand.NewSource(1))
	stops, traps := map[int]int{}, map[uint32]int{}
	for range 10000 {
		m, input := anyImage(t, r), sample.Input(r.Uint64())
		o := ran(t, m, input, 2000)
		stops[o.Stop]++
		if o.Stop == api.StopTrap {
			traps[o.Code]++
		}
		if o.Steps > 2000 || len(o.Output) > o.Steps || o.Stop == api.StopFuel && o.Steps != 2000 {
			t.Fatalf("%+v", o)
		}
		for _, fuel := range []int{r.Intn(o.Steps + 1), r.Intn(10), max(0, o.Steps-1), o.Steps, o.Steps + r.Intn(100)} {
			x := ran(t, m, input, fuel)
			switch {
			case o.Stop != api.StopFuel && fuel >= o.Steps:
				if x != o {
					t.Fatalf("by %d: %+v, by 2000 %+v", fuel, x, o)
				}
			case fuel <= o.Steps:
				if x.Stop != api.StopFuel || x.Code != 0 || x.Steps != fuel || !strings.HasPrefix(o.Output, x.Output) {
					t.Fatalf("by %d: %+v, by 2000 %+v", fuel, x, o)
				}
			}
		}
	}
	if stops[api.StopExit] < 1000 || stops[api.StopFuel] < 500 {
		t.Errorf("stops %v", stops)
	}
	for n := uint32(api.TrapDiv); n <= api.TrapReturn; n++ {
		if traps[n] < 25 {
			t.Errorf("traps %v", traps)
		}
	}
}

// runsAlike checks that two images have the same runs, by some fuels.
func runsAlike(t *testing.T, r *rand.Rand, m, other api.Image) {
	t.Helper()
	input := sample.Input(r.Uint64())
	for _, fuel := range []int{2000, r.Intn(20), r.Intn(300)} {
		a, e := emu.Run(m, input, fuel)
		b, f := emu.Run(other, input, fuel)
		if e != api.OK || f != api.OK || a != b {
			t.Fatalf("by %d: %+v, ahead %+v", fuel, b, a)
		}
	}
}

// TestOtherKinds has images with other Kinds (P18.2).
func TestOtherKinds(t *testing.T) {
	t.Parallel()
	r := rand.New(rand.NewSource(2))
	for i := range 4000 {
		m := anyImage(t, r)
		other := copyOf(m)
		other.Kinds = anyKinds(r, len(m.Words))
		if i%4 == 0 {
			other.Kinds = slices.Repeat([]int{1 + r.Intn(3)}, len(m.Words))
		}
		runsAlike(t, r, m, other)
	}
}

// TestWordsBehind puts words behind all others (P18.4).
func TestWordsBehind(t *testing.T) {
	t.Parallel()
	r := rand.New(rand.NewSource(3))
	checked := 0
	for range 8000 {
		m, input := anyImage(t, r), sample.Input(r.Uint64())
		o, _ := emu.Run(m, input, 2000)
		if o.Stop != api.StopExit {
			continue
		}
		checked++
		more := copyOf(m)
		for range 1 + r.Intn(20) {
			more.Words = append(more.Words, []uint32{anyWord(r), r.Uint32(), exit(3), ret()}[r.Intn(4)])
		}
		if r.Intn(50) == 0 {
			more.Words = append(more.Words, make([]uint32, 65536-len(more.Words))...)
		}
		more.Kinds = anyKinds(r, len(more.Words))
		if x, e := emu.Run(more, input, 2000); e != api.OK || x != o {
			t.Fatalf("%d: %+v, ahead %+v", e, x, o)
		}
	}
	if checked < 1000 {
		t.Errorf("%d runs", checked)
	}
}

// registersOf are those fields of a line that are registers.
func registersOf(x *api.Line) []*int {
	var l []*int
	if x.Op != api.LineLabel && x.Op != api.MacJMP && x.Op != api.MacJML && x.Op != api.MacCALL && x.Op != api.MacRET && x.Op != api.MacTRAP {
		l = append(l, &x.A)
	}
	switch {
	case x.Op >= api.MacADD && x.Op <= api.MacLEU:
		l = append(l, &x.B, &x.Imm)
	case x.Op == api.MacMOV || x.Op == api.MacADDI || x.Op >= api.MacNEG && x.Op <= api.MacBGTU:
		l = append(l, &x.B)
	}
	return l
}

// TestOtherRegisters has lists with their registers named otherwise (P18.5).
func TestOtherRegisters(t *testing.T) {
	t.Parallel()
	r := rand.New(rand.NewSource(4))
	for i := range uint64(4000) {
		l := sample.Lines(i)
		m := assembled(t, l)
		names := r.Perm(12)
		for k := range l {
			for _, register := range registersOf(&l[k]) {
				*register = names[*register]
			}
		}
		other := assembled(t, l)
		if len(m.Words) == 0 {
			continue
		}
		m.Data = dataOf(r)
		other.Data = m.Data
		runsAlike(t, r, m, other)
	}
}

// TestIdle puts lines that do nothing between those of lists (P18.6).
func TestIdle(t *testing.T) {
	t.Parallel()
	r := rand.New(rand.NewSource(5))
	checked, longer := 0, 0
	for i := range uint64(6000) {
		l, input := sample.Lines(i), sample.Input(r.Uint64())
		m := assembled(t, l)
		if len(m.Words) == 0 {
			continue
		}
		m.Data = dataOf(r)
		o, _ := emu.Run(m, input, 1000)
		if o.Stop == api.StopFuel {
			continue
		}
		j := []int{0, 1, 2, 10, 150}[r.Intn(5)]
		for range j {
			k := r.Intn(12)
			l = slices.Insert(l, r.Intn(len(l)+1), api.Line{Op: api.MacMOV, A: k, B: k})
		}
		idle := assembled(t, l)
		idle.Data = m.Data
		x, e := emu.Run(idle, input, (j+2)*(o.Steps+1))
		if e != api.OK || x.Stop != o.Stop || x.Code != o.Code || x.Output != o.Output {
			t.Fatalf("%d with %d lines more: %d, %+v, ahead %+v", i, j, e, x, o)
		}
		checked++
		if len(idle.Words) > len(m.Words)+j {
			longer++
		}
	}
	if checked < 2000 || longer < 200 {
		t.Errorf("%d runs, %d with longer branches", checked, longer)
	}
}

// TestNoughtsMore puts noughts behind Data (P18.7).
func TestNoughtsMore(t *testing.T) {
	t.Parallel()
	r := rand.New(rand.NewSource(6))
	for range 4000 {
		m := anyImage(t, r)
		other := copyOf(m)
		n := r.Intn(50)
		if r.Intn(50) == 0 {
			n = 524288 - len(m.Data) - r.Intn(2)
		}
		other.Data = append(other.Data, make([]uint32, n)...)
		runsAlike(t, r, m, other)
	}
}

// TestPrimes runs a list that writes the primes below 100, found by crossing out in the memory.
func TestPrimes(t *testing.T) {
	line := func(op, a, b, imm int) api.Line { return api.Line{Op: op, A: a, B: b, Imm: imm} }
	to := func(op, a, b, label int) api.Line { return api.Line{Op: op, A: a, B: b, Label: label} }
	label := func(n int) api.Line { return api.Line{Op: api.LineLabel, Label: n} }
	l := []api.Line{
		line(api.MacLI, 1, 0, 2), line(api.MacLI, 2, 0, 100), line(api.MacLI, 3, 0, 1), line(api.MacLI, 10, 0, 10), line(api.MacLI, 11, 0, ' '),
		label(1), to(api.MacBGES, 1, 2, 2), line(api.MacLD, 4, 1, 0), to(api.MacBNE, 4, 0, 3), to(api.MacCALL, 0, 0, 4),
		line(api.MacMOV, 5, 1, 0),
		label(5), line(api.MacADD, 5, 5, 1), to(api.MacBGEU, 5, 2, 3), line(api.MacST, 3, 5, 0), to(api.MacJMP, 0, 0, 5),
		label(3), line(api.MacADDI, 1, 1, 1), to(api.MacJMP, 0, 0, 1),
		label(2), line(api.MacEXIT, 7, 0, 0),
		// The number in R1 comes out, and R7 counts.
		label(4), line(api.MacADDI, 7, 7, 1), line(api.MacDIVU, 8, 1, 10), to(api.MacBEQ, 8, 0, 6), line(api.MacADDI, 8, 8, '0'), line(api.MacPUTC, 8, 0, 0),
		label(6), line(api.MacREMU, 8, 1, 10), line(api.MacADDI, 8, 8, '0'), line(api.MacPUTC, 8, 0, 0), line(api.MacPUTC, 11, 0, 0), line(api.MacRET, 0, 0, 0),
	}
	o := ran(t, assembled(t, l), "", 100000)
	if o.Stop != api.StopExit || o.Code != 25 || o.Output != "2 3 5 7 11 13 17 19 23 29 31 37 41 43 47 53 59 61 67 71 73 79 83 89 97 " {
		t.Errorf("%+v", o)
	}
}

// TestRunsApart: one run leaves nothing for another one.
func TestRunsApart(t *testing.T) {
	m := image(load(1, 0, 5), ins(api.MacADDI, 1, 1, 1), store(1, 0, 5), load(2, 3, 5), putc(2), exit(2))
	m.Data = []uint32{0, 0, 0, 0, 0, 'a'}
	for range 3 {
		is(t, "a run", ran(t, m, "", 99), api.StopExit, 'b', 6, "b")
	}
	m.Data = nil
	is(t, "another one", ran(t, m, "", 99), api.StopExit, 1, 6, "\x01")
}
