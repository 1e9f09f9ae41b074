package relax_test

import (
	"math/rand"
	"slices"
	"testing"

	"switchback/api"
	"switchback/enc"
	"switchback/sample"
)

// anyList is a list that may be, of one sort or another.
func anyList(r *rand.Rand) []api.Line {
	switch r.Intn(4) {
	case 0:
		return knot(r, 1+r.Intn(200))
	case 1:
		return few(r)
	}
	return sample.Lines(r.Uint64())
}

// isWord tells whether a word is that of an instruction, with the displacement or number of which is asked.
func isWord(a api.Assembly, at int, c api.Code) bool {
	got, e := enc.Decode(a.Words[at])
	return e == api.OK && got == c && a.Kinds[at] == api.WordIns
}

// readBack reads words one by one, those that are no instructions as what enc says stands behind one, and holds them against a list (P17.2).
func readBack(t *testing.T, l []api.Line, a api.Assembly) {
	t.Helper()
	places := map[int]uint32{}
	for i, x := range l {
		if x.Op == api.LineLabel {
			places[x.Label] = uint32(a.Places[i])
		}
	}
	next := 0
	for i, x := range l {
		if a.Places[i] != next {
			t.Fatalf("line %d at %d, want %d", i, a.Places[i], next)
		}
		if x.Op == api.LineLabel {
			continue
		}
		c, e := enc.Decode(a.Words[next])
		if e != api.OK || a.Kinds[next] != api.WordIns {
			t.Fatalf("line %d: %08x is no instruction", i, a.Words[next])
		}
		next++
		if isBranch(x) && c.Op == x.Op {
			if c.A != x.A || c.B != x.B || uint32(next+c.Imm) != places[x.Label] {
				t.Fatalf("line %d: %+v at %d, to %d", i, c, next-1, places[x.Label])
			}
			continue
		}
		if isBranch(x) && x.Op != api.MacJMP {
			if (c != api.Code{Op: otherOf(x.Op), A: x.A, B: x.B, Imm: 2}) || !isWord(a, next, api.Code{Op: api.MacJML}) {
				t.Fatalf("line %d: %+v at %d", i, c, next-1)
			}
			next++
			c.Op = api.MacJML
		} else if x.Op == api.MacJMP {
			x.Op = api.MacJML
		}
		next = readBehind(t, x, c, places, a, next)
	}
	if next != len(a.Words) || next != len(a.Kinds) {
		t.Fatalf("%d words, %d of them are the list's", len(a.Words), next)
	}
}

// readBehind reads what stands behind an instruction, and tells where that ends.
func readBehind(t *testing.T, x api.Line, c api.Code, places map[int]uint32, a api.Assembly, next int) int {
	t.Helper()
	kind, want := api.WordLiteral, []uint32{places[x.Label]}
	switch {
	case isBranch(x):
	case c != api.Code{Op: x.Op, A: x.A, B: x.B, Imm: x.Imm}:
		t.Fatalf("%+v, want %+v", c, x)
	case x.Op == api.MacLIT:
		want = []uint32{x.N}
	case x.Op == api.MacJTAB:
		kind, want = api.WordTable, []uint32{uint32(len(x.List))}
		for _, label := range x.List {
			want = append(want, places[label])
		}
	}
	n := enc.Follows(c.Op)
	if n < 0 {
		n = 1 + len(x.List)
	}
	for i, w := range want[:n] {
		if a.Words[next+i] != w || a.Kinds[next+i] != kind {
			t.Fatalf("at %d %08x, of kind %d, want %08x", next+i, a.Words[next+i], a.Kinds[next+i], w)
		}
	}
	return next + n
}

// branchesOf is how many branches a list has.
func branchesOf(l []api.Line) int {
	n := 0
	for _, x := range l {
		if isBranch(x) {
			n++
		}
	}
	return n
}

// TestAnyLists holds lists that may be against the chapter's words (P17.4: none is refused; P17.1, P17.2).
func TestAnyLists(t *testing.T) {
	t.Parallel()
	r := rand.New(rand.NewSource(1))
	for range 4000 {
		l := anyList(r)
		a := good(t, l)
		readBack(t, l, a)
		if a.Rounds < 1 || a.Rounds > branchesOf(l)+1 {
			t.Fatalf("%d rounds, %d branches", a.Rounds, branchesOf(l))
		}
	}
}

// TestLabelsMore puts labels that nobody goes to between lines: no word is another one (P17.5).
func TestLabelsMore(t *testing.T) {
	t.Parallel()
	r := rand.New(rand.NewSource(2))
	for range 2000 {
		l := anyList(r)
		more := slices.Clone(l)
		for i := range 1 + r.Intn(20) {
			more = slices.Insert(more, r.Intn(len(more)+1), at(50000+i))
		}
		a, b := good(t, l), good(t, more)
		if !slices.Equal(a.Words, b.Words) || !slices.Equal(a.Kinds, b.Kinds) || a.Rounds != b.Rounds {
			t.Fatalf("%s\n%s", unlike(b, a), told(more))
		}
	}
}

// renamed is a list with other labels.
func renamed(l []api.Line, name func(label int) int) []api.Line {
	l = copyOf(l)
	for i, x := range l {
		if x.Op == api.LineLabel || rowOf(x.Op).label {
			l[i].Label = name(x.Label)
		}
		for k, label := range x.List {
			l[i].List[k] = name(label)
		}
	}
	return l
}

// names gives labels other names: all that are asked for get unlike ones, from some number on, in any order.
func names(r *rand.Rand, first int) func(label int) int {
	given, free := map[int]int{}, r.Perm(1000)
	return func(label int) int {
		if _, is := given[label]; !is {
			given[label] = first + free[len(given)]
		}
		return given[label]
	}
}

// TestOtherNames has labels named otherwise: all is the same.
func TestOtherNames(t *testing.T) {
	t.Parallel()
	r := rand.New(rand.NewSource(3))
	for range 1000 {
		l := anyList(r)
		a, b := good(t, l), good(t, renamed(l, names(r, []int{0, 777, 99001}[r.Intn(3)])))
		if !same(a, b) {
			t.Fatalf("%s\n%s", unlike(b, a), told(l))
		}
	}
}

// moved are words that stand by n farther: places of labels are so, too.
func moved(a api.Assembly, n int) []uint32 {
	words := slices.Clone(a.Words)
	for i, c := range a.Words {
		if a.Kinds[i] != api.WordIns {
			continue
		}
		switch c >> 24 {
		case api.MacJML, api.MacCALL:
			words[i+1] += uint32(n)
		case api.MacJTAB:
			for k := range a.Words[i+1] {
				words[i+2+int(k)] += uint32(n)
			}
		}
	}
	return words
}

// TestJoined has two lists one behind the other (P17.6).
func TestJoined(t *testing.T) {
	t.Parallel()
	r := rand.New(rand.NewSource(4))
	unlikeRounds := 0
	for range 2000 {
		l := renamed(anyList(r), names(r, 0))
		m := renamed(anyList(r), names(r, 5000))
		a, b, both := good(t, l), good(t, m), good(t, of(l, m))
		words := slices.Concat(a.Words, moved(b, len(a.Words)))
		if !slices.Equal(both.Words, words) || !slices.Equal(both.Kinds, slices.Concat(a.Kinds, b.Kinds)) || both.Rounds != max(a.Rounds, b.Rounds) {
			t.Fatalf("%d rounds and %d rounds, together %d\n%s\n%s", a.Rounds, b.Rounds, both.Rounds, told(l), told(m))
		}
		if a.Rounds != b.Rounds {
			unlikeRounds++
		}
	}
	if unlikeRounds < 200 {
		t.Errorf("%d pairs of unlike rounds", unlikeRounds)
	}
}

// TestShorter leaves out a line that is one word and no branch: no branch becomes long by that (P17.7).
func TestShorter(t *testing.T) {
	t.Parallel()
	r := rand.New(rand.NewSource(5))
	fewer := 0
	for range 3000 {
		l := anyList(r)
		var lines []int
		for i, x := range l {
			if size(x, false) == 1 && !isBranch(x) {
				lines = append(lines, i)
			}
		}
		if len(lines) == 0 {
			continue
		}
		i := lines[r.Intn(len(lines))]
		shorter := slices.Delete(slices.Clone(l), i, i+1)
		long, now := longOf(l, good(t, l)), longOf(shorter, good(t, shorter))
		for k, is := range slices.Delete(slices.Clone(long), i, i+1) {
			if now[k] && !is {
				t.Fatalf("without line %d line %d is long\n%s", i, k, told(l))
			}
			if is && !now[k] {
				fewer++
			}
		}
	}
	if fewer < 50 {
		t.Errorf("%d branches became short", fewer)
	}
}
