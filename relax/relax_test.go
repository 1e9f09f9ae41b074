package relax_test

import (
	"reflect"
	"slices"
	"strconv"
	"strings"
	"testing"

	"switchback/api"
	"switchback/relax"
	"switchback/sample"
)

// Lines by short names.

func at(label int) api.Line {
	return api.Line{Op: api.LineLabel, Label: label}
}

func jmp(label int) api.Line {
	return api.Line{Op: api.MacJMP, Label: label}
}

func branch(op, a, b, label int) api.Line {
	return api.Line{Op: op, A: a, B: b, Label: label}
}

func beq(label int) api.Line {
	return branch(api.MacBEQ, 0, 1, label)
}

func jtab(a int, labels ...int) api.Line {
	return api.Line{Op: api.MacJTAB, A: a, List: labels}
}

func lit(a int, n uint32) api.Line {
	return api.Line{Op: api.MacLIT, A: a, N: n}
}

var ret = api.Line{Op: api.MacRET}

// of is one list of several.
func of(pieces ...[]api.Line) []api.Line {
	return slices.Concat(pieces...)
}

func one(lines ...api.Line) []api.Line {
	return lines
}

func times(n int, x api.Line) []api.Line {
	return slices.Repeat([]api.Line{x}, n)
}

// told is a list as a text, for what a test says.
func told(l []api.Line) string {
	if len(l) > 200 {
		return strconv.Itoa(len(l)) + " lines"
	}
	var s strings.Builder
	for i, x := range l {
		s.WriteString(strconv.Itoa(i) + ": op " + strconv.Itoa(x.Op) + " a " + strconv.Itoa(x.A) + " b " + strconv.Itoa(x.B) + " imm " + strconv.Itoa(x.Imm) + " n " + strconv.Itoa(int(x.N)) + " label " + strconv.Itoa(x.Label))
		for _, label := range x.List {
			s.WriteString(" " + strconv.Itoa(label))
		}
		s.WriteByte('\n')
	}
	return s.String()
}

func copyOf(l []api.Line) []api.Line {
	l = slices.Clone(l)
	for i := range l {
		l[i].List = slices.Clone(l[i].List)
	}
	return l
}

// same tells whether two answers are the same.
func same(a, b api.Assembly) bool {
	return slices.Equal(a.Words, b.Words) && slices.Equal(a.Kinds, b.Kinds) && slices.Equal(a.Places, b.Places) && a.Rounds == b.Rounds
}

// unlike tells in what two answers differ.
func unlike(a, b api.Assembly) string {
	for i := range min(len(a.Words), len(b.Words), len(a.Kinds), len(b.Kinds)) {
		if a.Words[i] != b.Words[i] || a.Kinds[i] != b.Kinds[i] {
			return "at " + strconv.Itoa(i) + " the word " + strconv.FormatUint(uint64(a.Words[i]), 16) + " of kind " + strconv.Itoa(a.Kinds[i]) + ", want " + strconv.FormatUint(uint64(b.Words[i]), 16) + " of kind " + strconv.Itoa(b.Kinds[i])
		}
	}
	for i := range min(len(a.Places), len(b.Places)) {
		if a.Places[i] != b.Places[i] {
			return "line " + strconv.Itoa(i) + " at " + strconv.Itoa(a.Places[i]) + ", want " + strconv.Itoa(b.Places[i])
		}
	}
	return counts(a) + ", want " + counts(b)
}

func counts(a api.Assembly) string {
	return strconv.Itoa(len(a.Words)) + " words, " + strconv.Itoa(len(a.Kinds)) + " kinds, " + strconv.Itoa(len(a.Places)) + " places, " + strconv.Itoa(a.Rounds) + " rounds"
}

// empty tells whether there is nothing in an answer.
func empty(a api.Assembly) bool {
	return len(a.Words) == 0 && len(a.Kinds) == 0 && len(a.Places) == 0 && a.Rounds == 0
}

// assembled checks what comes of a list against the chapter's words, that the list is as it was, and that the answer has memory of its own.
func assembled(t *testing.T, l []api.Line) (api.Assembly, api.Errno) {
	t.Helper()
	ahead := copyOf(l)
	a, line, e := relax.Assemble(l)
	want, atLine, f := written(ahead)
	if e != f || line != atLine {
		t.Fatalf("%d at %d, want %d at %d\n%s", e, line, f, atLine, told(l))
	}
	if e != api.OK && !empty(a) {
		t.Fatalf("beside %d: %s", e, counts(a))
	}
	if !same(a, want) {
		t.Fatalf("%s\n%s", unlike(a, want), told(l))
	}
	if !reflect.DeepEqual(l, ahead) {
		t.Fatalf("changed: %s", told(l))
	}
	if !sample.Apart(append(tables(l), a.Kinds, a.Places)...) {
		t.Fatalf("lists share memory: %s", told(l))
	}
	return a, e
}

// tables are the lists of a list's lines, each once.
func tables(l []api.Line) [][]int {
	var found [][]int
	met := map[*int]bool{}
	for _, x := range l {
		if len(x.List) > 0 && !met[&x.List[0]] {
			met[&x.List[0]] = true
			found = append(found, x.List)
		}
	}
	return found
}

// good is what comes of a list that is not refused.
func good(t *testing.T, l []api.Line) api.Assembly {
	t.Helper()
	a, e := assembled(t, l)
	if e != api.OK {
		t.Fatalf("%d\n%s", e, told(l))
	}
	return a
}

// bad checks that a list is refused.
func bad(t *testing.T, l []api.Line, line int, e api.Errno) {
	t.Helper()
	if a, x, f := relax.Assemble(l); f != e || x != line || !empty(a) {
		t.Errorf("%d at %d, want %d at %d; %s\n%s", f, x, e, line, counts(a), told(l))
	}
	assembled(t, l)
}

func TestExamples(t *testing.T) {
	a := good(t, one(at(7), ret, jmp(7)))
	if want := (api.Assembly{Words: []uint32{0x2c000000, 0x2800fffe}, Kinds: []int{1, 1}, Places: []int{0, 0, 1}, Rounds: 1}); !same(a, want) {
		t.Error("1:", unlike(a, want))
	}
	a = good(t, of(one(beq(5)), times(127, ret), one(at(5))))
	if a.Words[0] != 0x1e01007f || len(a.Words) != 128 || a.Rounds != 1 || a.Places[128] != 128 {
		t.Errorf("2: %08x, %d words, %d rounds", a.Words[0], len(a.Words), a.Rounds)
	}
	a = good(t, of(one(beq(5)), times(128, ret), one(at(5))))
	if !slices.Equal(a.Words[:4], []uint32{0x1f010002, 0x29000000, 131, 0x2c000000}) || !slices.Equal(a.Kinds[:4], []int{1, 1, 2, 1}) || len(a.Words) != 131 || a.Rounds != 2 || a.Places[1] != 3 || a.Places[129] != 131 {
		t.Errorf("2: %08x, %d words, %d rounds", a.Words[:4], len(a.Words), a.Rounds)
	}
	bad(t, one(at(5), ret, at(5)), 2, api.ErrRelaxTwice)
	bad(t, one(at(0), jtab(0)), 1, api.ErrRelaxOperand)
	bad(t, one(at(0), jtab(0, make([]int, 401)...)), 1, api.ErrRelaxOperand)
	bad(t, one(at(1), api.Line{Op: api.MacMOV, Label: 1}), 1, api.ErrRelaxOperand)
	for _, l := range [][]api.Line{nil, {}} {
		if a := good(t, l); len(a.Words) != 0 || a.Rounds != 1 {
			t.Errorf("4: %+v", a)
		}
	}
}

// pairs are the branches that go where one another do not, as the chapter names them.
func pairs() map[int]int {
	return map[int]int{
		api.MacBEQ: api.MacBNE, api.MacBLTS: api.MacBGES, api.MacBLES: api.MacBGTS, api.MacBLTU: api.MacBGEU, api.MacBLEU: api.MacBGTU,
		api.MacBNE: api.MacBEQ, api.MacBGES: api.MacBLTS, api.MacBGTS: api.MacBLES, api.MacBGEU: api.MacBLTU, api.MacBGTU: api.MacBLEU,
	}
}

// TestBranches has each branch short and long, to the front and back.
func TestBranches(t *testing.T) {
	for op, other := range pairs() {
		x := branch(op, 3, 11, 9)
		first := uint32(op<<24 | 0x3b0000)
		back := uint32(other<<24 | 0x3b0002)
		if a := good(t, one(x, at(9))); !slices.Equal(a.Words, []uint32{first}) {
			t.Errorf("%d to the next one: %08x", op, a.Words)
		}
		if a := good(t, one(at(9), x)); !slices.Equal(a.Words, []uint32{first | 0xffff}) {
			t.Errorf("%d to itself: %08x", op, a.Words)
		}
		if a := good(t, of(one(x), times(127, ret), one(at(9)))); a.Words[0] != first|127 {
			t.Errorf("%d by 127: %08x", op, a.Words[0])
		}
		if a := good(t, of(one(x), times(128, ret), one(at(9)))); !slices.Equal(a.Words[:3], []uint32{back, 0x29000000, 131}) {
			t.Errorf("%d by 128: %08x", op, a.Words[:3])
		}
		if a := good(t, of(one(at(9)), times(127, ret), one(x))); a.Words[127] != first|0xff80 {
			t.Errorf("%d by -128: %08x", op, a.Words[127])
		}
		if a := good(t, of(one(at(9)), times(128, ret), one(x))); !slices.Equal(a.Words[128:], []uint32{back, 0x29000000, 0}) {
			t.Errorf("%d by -129: %08x", op, a.Words[128:])
		}
	}
}

// TestJumps has MacJMP short and long, to the front and back, and MacJML, which is always as it is.
func TestJumps(t *testing.T) {
	if a := good(t, of(one(jmp(9)), times(127, ret), one(at(9)))); a.Words[0] != 0x2800007f {
		t.Errorf("by 127: %08x", a.Words[0])
	}
	if a := good(t, of(one(jmp(9)), times(128, ret), one(at(9)))); !slices.Equal(a.Words[:3], []uint32{0x29000000, 130, 0x2c000000}) || !slices.Equal(a.Kinds[:3], []int{1, 2, 1}) || a.Rounds != 2 {
		t.Errorf("by 128: %08x", a.Words[:3])
	}
	if a := good(t, of(one(at(9)), times(127, ret), one(jmp(9)))); a.Words[127] != 0x2800ff80 {
		t.Errorf("by -128: %08x", a.Words[127])
	}
	if a := good(t, of(one(at(9)), times(128, ret), one(jmp(9)))); !slices.Equal(a.Words[128:], []uint32{0x29000000, 0}) {
		t.Errorf("by -129: %08x", a.Words[128:])
	}
	far := api.Line{Op: api.MacJML, Label: 9}
	if a := good(t, one(far, at(9))); !slices.Equal(a.Words, []uint32{0x29000000, 2}) || !slices.Equal(a.Kinds, []int{1, 2}) || a.Rounds != 1 {
		t.Errorf("MacJML: %+v", a)
	}
}

// gaps are lists of n words each, made of lines of each sort that has its size for good; no label stands in them but label, at their end.
func gaps(n, label int) [][]api.Line {
	l := [][]api.Line{of(times(n, ret), one(at(label)))}
	for _, x := range []api.Line{lit(1, 77), {Op: api.MacJML, Label: label}, {Op: api.MacCALL, Label: label}} {
		l = append(l, of(times(n/2, x), times(n%2, ret), one(at(label))))
	}
	for _, targets := range []int{1, n/2 - 2, n - 2} {
		if targets > 0 && targets <= 400 {
			x := jtab(2, slices.Repeat([]int{label}, targets)...)
			l = append(l, of(times(n/(targets+2), x), times(n%(targets+2), ret), one(at(label))))
		}
	}
	return append(l, of(times(n, api.Line{Op: api.MacLI, A: 1, Imm: -1}), one(at(label))))
}

// TestGaps has displacements about the ends of what may be, over lines of all sorts, and labels between them.
func TestGaps(t *testing.T) {
	for n := 120; n <= 135; n++ {
		for _, x := range []api.Line{beq(1), branch(api.MacBGTU, 11, 10, 1), jmp(1)} {
			for i, gap := range gaps(n, 1) {
				a := good(t, of(one(x), gap))
				if (a.Rounds == 1) != (n <= 127) {
					t.Errorf("%d words of sort %d: %d rounds", n, i, a.Rounds)
				}
			}
			for i, gap := range gaps(n, 2) {
				a := good(t, of(one(at(1)), gap, one(x)))
				if (a.Rounds == 1) != (n <= 127) {
					t.Errorf("%d words back of sort %d: %d rounds", n, i, a.Rounds)
				}
				labels := one(at(100000), at(0), at(3))
				if b := good(t, of(labels, one(at(1)), gap, one(x))); !slices.Equal(a.Words, b.Words) {
					t.Errorf("labels more: %s", unlike(b, a))
				}
			}
		}
	}
}

// TestWhereLabelsStand has labels at the beginning, at the end, some at one place, and such as nobody goes to.
func TestWhereLabelsStand(t *testing.T) {
	a := good(t, one(at(0), at(100000), api.Line{Op: api.MacCALL, Label: 0}, api.Line{Op: api.MacCALL, Label: 100000}, jmp(5), ret, at(4), at(5), at(6)))
	if !slices.Equal(a.Places, []int{0, 0, 0, 2, 4, 5, 6, 6, 6}) || !slices.Equal(a.Words, []uint32{0x2b000000, 0, 0x2b000000, 0, 0x28000001, 0x2c000000}) {
		t.Errorf("%d, %08x", a.Places, a.Words)
	}
	if a := good(t, one(at(3))); len(a.Words) != 0 || !slices.Equal(a.Places, []int{0}) || a.Rounds != 1 {
		t.Errorf("a label alone: %+v", a)
	}
	if a := good(t, one(jtab(11, 2, 1, 2, 0), at(0), ret, at(1), ret, at(2))); !slices.Equal(a.Words, []uint32{0x2ab00000, 4, 8, 7, 8, 6, 0x2c000000, 0x2c000000}) || !slices.Equal(a.Kinds, []int{1, 3, 3, 3, 3, 3, 1, 1}) {
		t.Errorf("a table: %08x, %d", a.Words, a.Kinds)
	}
	if a := good(t, one(lit(9, 1<<32-1), lit(0, 0), lit(1, 7))); !slices.Equal(a.Words, []uint32{0x02900000, 1<<32 - 1, 0x02000000, 0, 0x02100000, 7}) || !slices.Equal(a.Kinds, []int{1, 2, 1, 2, 1, 2}) {
		t.Errorf("literals: %08x, %d", a.Words, a.Kinds)
	}
}

// TestEachOp has a line of each Op between others, with its fields at both ends.
func TestEachOp(t *testing.T) {
	for op := 1; op <= 48; op++ {
		r := rowOf(op)
		x := api.Line{Op: op, A: mostIf(r.a, 11), B: mostIf(r.b, 10), Imm: r.most, Label: mostIf(r.label, 100000)}
		y := api.Line{Op: op, Imm: r.least}
		if r.n {
			x.N, y.N = 1<<32-1, 1<<31
		}
		if r.list {
			x.List, y.List = slices.Repeat([]int{100000, 0}, 200), []int{0}
		}
		a := good(t, one(at(0), ret, x, at(100000), y, ret))
		if n := a.Places[3] - a.Places[2]; n != size(x, false) || a.Kinds[1] != 1 || a.Words[1]>>24 != uint32(op) {
			t.Errorf("%d: %d words, the first one %08x", op, n, a.Words[1])
		}
	}
}

// TestEmptyLists: a list that is empty may be nil or not, everywhere.
func TestEmptyLists(t *testing.T) {
	l := one(at(1), ret, lit(3, 4), jmp(1), beq(1), api.Line{Op: api.MacMOV, A: 1, B: 2})
	a := good(t, l)
	for i := range l {
		l[i].List = []int{}
	}
	if b := good(t, l); !same(a, b) {
		t.Errorf("%s", unlike(b, a))
	}
}

// TestAgain: one list, one answer; what is written into one changes no other.
func TestAgain(t *testing.T) {
	l := of(one(at(1), beq(2)), times(200, ret), one(jtab(3, 1, 2), jmp(1), at(2)))
	a, _, _ := relax.Assemble(l)
	b, _, _ := relax.Assemble(l)
	if !same(a, b) {
		t.Fatalf("%s", unlike(b, a))
	}
	for i := range a.Words {
		a.Words[i], a.Kinds[i] = 99, 99
	}
	for i := range a.Places {
		a.Places[i] = 99
	}
	c, _, _ := relax.Assemble(l)
	if !same(b, c) {
		t.Fatalf("%s", unlike(c, b))
	}
	l[0].Label, l[202].List[0] = 5, 5
	if !same(b, c) {
		t.Error("an answer hangs on what was handed in")
	}
}
