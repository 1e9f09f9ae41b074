package relax_test

import (
	"slices"
	"testing"

	"switchback/api"
	"switchback/relax"
)

// TestHowManyLines has as many lines as there may be, and one more.
func TestHowManyLines(t *testing.T) {
	t.Parallel()
	l := times(60000, ret)
	if a := good(t, l); len(a.Words) != 60000 || a.Rounds != 1 {
		t.Errorf("%d words", len(a.Words))
	}
	for _, x := range []api.Line{ret, {Op: 49}, at(0), jmp(9), {Op: api.MacRET, A: 1}} {
		bad(t, of(l, one(x)), 0, api.ErrLong)
		bad(t, of(one(x), l), 0, api.ErrLong)
	}
	bad(t, times(200000, ret), 0, api.ErrLong)
	bad(t, of(l[1:], one(api.Line{Op: 49})), 59999, api.ErrRelaxOp)
	bad(t, of(l[1:], one(api.Line{Op: api.MacEXIT, B: 1})), 59999, api.ErrRelaxOperand)
	bad(t, of(one(at(4)), l[2:], one(at(4))), 59999, api.ErrRelaxTwice)
	bad(t, of(one(at(4)), l[2:], one(jmp(5))), 59999, api.ErrRelaxLabel)
	bad(t, of(one(jmp(5)), l[2:], one(at(4))), 0, api.ErrRelaxLabel)
	a := good(t, of(one(jmp(5)), l[2:], one(at(5))))
	if !slices.Equal(a.Words[:3], []uint32{0x29000000, 60000, 0x2c000000}) || len(a.Words) != 60000 || a.Rounds != 2 {
		t.Errorf("%08x, %d words, %d rounds", a.Words[:3], len(a.Words), a.Rounds)
	}
}

// TestManyLabels has as many labels as there are lines.
func TestManyLabels(t *testing.T) {
	t.Parallel()
	var l []api.Line
	for i := range 60000 {
		l = append(l, at(100000-i))
	}
	if a := good(t, l); len(a.Words) != 0 || len(a.Places) != 60000 || a.Places[59999] != 0 {
		t.Errorf("%d words, %d places", len(a.Words), len(a.Places))
	}
	l[59999] = jmp(100000)
	if a := good(t, l); !slices.Equal(a.Words, []uint32{0x2800ffff}) {
		t.Errorf("%08x", a.Words)
	}
	l[59999] = jmp(40001)
	bad(t, l, 59999, api.ErrRelaxLabel)
	l[59999] = at(40002)
	bad(t, l, 59999, api.ErrRelaxTwice)
}

// TestHowManyWords has as many words as an image may have, and one more.
func TestHowManyWords(t *testing.T) {
	t.Parallel()
	l := times(32768, lit(3, 5))
	if a := good(t, l); len(a.Words) != 65536 {
		t.Errorf("%d words", len(a.Words))
	}
	bad(t, of(l, one(ret)), 0, api.ErrTooBig)
	bad(t, of(one(ret), l), 0, api.ErrTooBig)
	bad(t, of(l, l[:27232]), 0, api.ErrTooBig)
	bad(t, of(l, one(ret, jmp(6))), 32769, api.ErrRelaxLabel)
	bad(t, of(l, one(ret, api.Line{Op: -1})), 32769, api.ErrRelaxOp)
	a := good(t, of(one(api.Line{Op: api.MacCALL, Label: 9}, at(8)), l[1:], one(at(9))))
	if a.Words[1] != 65536 || a.Places[32769] != 65536 {
		t.Errorf("a label behind all words: %d", a.Words[1])
	}
	a = good(t, of(l[1:], one(at(4), jmp(5), ret, at(5))))
	if a.Words[65534] != 0x28000001 || a.Places[32770] != 65536 {
		t.Errorf("a short jump at the end: %08x", a.Words[65534])
	}
}

// TestTooBigBehindAllRounds has lists that would have room, were all branches short, or were there fewer rounds.
func TestTooBigBehindAllRounds(t *testing.T) {
	t.Parallel()
	l := times(32767, lit(3, 5))
	a := good(t, of(one(jmp(5)), l, one(at(5))))
	if len(a.Words) != 65536 || a.Words[1] != 65536 {
		t.Errorf("%d words", len(a.Words))
	}
	bad(t, of(one(jmp(5)), l, one(ret, at(5))), 0, api.ErrTooBig)
	bad(t, of(one(at(5)), l, one(beq(5))), 0, api.ErrTooBig)
	a = good(t, of(one(ret, at(5)), l[1:], one(beq(5))))
	if len(a.Words) != 65536 || a.Words[65533] != 0x1f010002 {
		t.Errorf("%d words, %08x", len(a.Words), a.Words[65533])
	}
	for _, front := range []bool{false, true} {
		for n, x := range map[int]api.Line{21802: beq(0), 32: beq(0), 64: jmp(0)} {
			list := chain(n, x, front)
			words := 128 + n*size(x, true)
			fill := times((65536-words)/2, lit(0, 0))
			rest := times((65536-words)%2, ret)
			if n == 21802 {
				fill, rest = nil, times(65536-words, ret)
			}
			a, _, e := relax.Assemble(of(list, fill, rest))
			if e != api.OK || len(a.Words) != 65536 || a.Rounds != n+1 {
				t.Errorf("%d branches: %d, %d words, %d rounds", n, e, len(a.Words), a.Rounds)
			}
			a, line, e := relax.Assemble(of(fill, rest, list, one(ret)))
			if e != api.ErrTooBig || line != 0 || !empty(a) {
				t.Errorf("%d branches and a word: %d, %d words", n, e, len(a.Words))
			}
		}
	}
}

// TestManyBranches has many branches to one place.
func TestManyBranches(t *testing.T) {
	t.Parallel()
	for _, front := range []bool{false, true} {
		for _, x := range []struct {
			n    int
			line api.Line
			e    api.Errno
		}{{32832, jmp(0), api.OK}, {32833, jmp(0), api.ErrTooBig}, {21930, beq(0), api.OK}, {21931, beq(0), api.ErrTooBig}, {59999, beq(0), api.ErrTooBig}} {
			l := of(one(at(0)), times(x.n, x.line))
			if front {
				slices.Reverse(l)
			}
			if a, e := assembled(t, l); e != x.e {
				t.Errorf("%d branches of %d, to the front %v: %d, %d words", x.n, x.line.Op, front, e, len(a.Words))
			}
		}
	}
}

// TestGreatTables has tables as great as may be: as many as an image has room for, and as many as there may be lines.
func TestGreatTables(t *testing.T) {
	t.Parallel()
	var labels []int
	for i := range 400 {
		labels = append(labels, 99601+i)
	}
	var l []api.Line
	for _, label := range labels {
		l = append(l, ret, at(label))
	}
	x := jtab(11, labels...)
	a := good(t, of(times(80, x), l, times(80, x)))
	if len(a.Words) != 160*402+400 {
		t.Errorf("%d words", len(a.Words))
	}
	if a := good(t, of(times(162, x), l, times(12, ret))); len(a.Words) != 65536 {
		t.Errorf("%d words", len(a.Words))
	}
	bad(t, of(times(162, x), l, times(13, ret)), 0, api.ErrTooBig)
	bad(t, of(l, times(59200, x)), 0, api.ErrTooBig)
	y := jtab(11, append(slices.Clone(labels[:399]), 0)...)
	bad(t, of(l, times(59199, x), one(y)), 59999, api.ErrRelaxLabel)
	y.List[399] = -1
	bad(t, of(one(y), times(59199, x), l), 0, api.ErrRelaxOperand)
}
