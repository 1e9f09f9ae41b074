package emit_test

import (
	"slices"
	"testing"

	"switchback/api"
)

// long is a module whose function has so many instructions that make two lines each, and so many that make one.
func long(pairs, singles int) api.Module {
	code := slices.Repeat([]api.Ins{load(0, 0)}, pairs)
	m := of(fn(9, block(back(-1), append(code, slices.Repeat([]api.Ins{one(api.InsNeg, 0, 0)}, singles)...)...)))
	m.Globals = []uint32{0}
	return m
}

// TestHowManyLines has as many lines as there may be, and one more.
func TestHowManyLines(t *testing.T) {
	frame := len(mustEmit(t, long(1, 0))) - 2
	for _, x := range [][2]int{{2, 0}, {1, 1}, {10, 20}, {2000, 20000}} {
		if l := mustEmit(t, long(x[0], x[1])); len(l) != frame+2*x[0]+x[1] {
			t.Fatalf("%d of two lines and %d of one: %d lines, beside them %d", x[0], x[1], len(l), frame)
		}
	}
	const pairs = 25000
	most := api.MaxLines - len(mustEmit(t, long(pairs, 0)))
	if l := mustEmit(t, long(pairs, most)); len(l) != api.MaxLines {
		t.Fatalf("%d lines", len(l))
	}
	refused(t, long(pairs, most+1), 0, 1, api.ErrTooBig)
	refused(t, long(pairs, most+2), 0, 1, api.ErrTooBig)
	refused(t, long(pairs+1, most), 0, 1, api.ErrTooBig)
	refused(t, long(api.MaxIns, 0), 0, 1, api.ErrTooBig)
}

func mustEmit(t *testing.T, m api.Module) []api.Line {
	t.Helper()
	l, _ := emitted(t, m, 0, len(m.Funcs))
	return l
}

// rings is a function of so many blocks, each of which may go back to itself.
func rings(blocks, code int) api.Module {
	g := fn(2)
	for b := range blocks {
		g.Blocks = append(g.Blocks, block(either(api.InsEq, 0, 1, b, (b+1)%blocks)))
	}
	g.Blocks[0].Code = slices.Repeat([]api.Ins{one(api.InsNeg, 0, 1)}, code)
	return of(g)
}

// TestHowManyLinesWithLabels has lines that are too many just by the labels among them.
func TestHowManyLinesWithLabels(t *testing.T) {
	const blocks = api.MaxBlocks
	more := api.MaxLines - len(mustEmit(t, rings(blocks, 1))) + 1
	if more < 2 || more > blocks {
		t.Fatalf("room for %d lines", more)
	}
	if l := mustEmit(t, rings(blocks, more)); len(l) != api.MaxLines {
		t.Fatalf("%d lines", len(l))
	}
	refused(t, rings(blocks, more+1), 0, 1, api.ErrTooBig)
}

// TestHowFarLabelsGo has labels up to the greatest one, and one above it.
func TestHowFarLabelsGo(t *testing.T) {
	for _, blocks := range []int{1, 2, 3, 100, 20000} {
		m := rings(blocks, 0)
		_, next := emitted(t, m, 0, 1)
		used := next - 1
		if used < 1 || used > blocks+2 {
			t.Fatalf("%d labels", used)
		}
		if _, next := emitted(t, m, 0, 100001-used); next != 100001 {
			t.Errorf("behind the labels is %d", next)
		}
		if used > 1 {
			refused(t, m, 0, 100002-used, api.ErrTooBig)
			refused(t, m, 0, 100000, api.ErrTooBig)
		}
	}
	if _, next := emitted(t, of(fn(1, block(to(0)))), 0, 100000); next != 100001 {
		t.Errorf("behind the labels is %d", next)
	}
	// Local arrays need a label, too.
	m := of(knowing(fn(1, block(to(0))), local(3)))
	_, next := emitted(t, m, 0, 1)
	emitted(t, m, 0, 100001-(next-1))
	refused(t, m, 0, 100002-(next-1), api.ErrTooBig)
}

// TestAsMuchAsMayBe has functions of as many blocks, instructions, cases and targets as there may be, some of them too big.
func TestAsMuchAsMayBe(t *testing.T) {
	row := fn(0)
	for b := range api.MaxBlocks {
		row.Blocks = append(row.Blocks, block(to((b+7)%api.MaxBlocks)))
	}
	means(t, of(row), 100000, "")
	row.Blocks[7*2000].End = back(-1)
	ends(t, of(row), "", api.StopExit, 0, "")
	all := fn(api.MaxTemps)
	for temp := range all.Temps {
		all.Blocks = append(all.Blocks, block(to(temp+1), two(api.InsAdd, (temp+1)%all.Temps, temp, temp)))
	}
	all.Blocks = append(all.Blocks, block(back(0)))
	means(t, of(all), 100000, "")
	var cases []api.Case
	for n := range api.MaxTable {
		cases = append(cases, api.Case{N: uint32(n) << 16, To: n % 100})
	}
	wide, great := fn(12), fn(12)
	for b := range 100 {
		wide.Blocks = append(wide.Blocks, block(choose(b%12, (b+1)%100, cases...), getc(b%12)))
	}
	for b := range 1000 {
		great.Blocks = append(great.Blocks, block(table(b%12, 0, (b+1)%1000, slices.Repeat([]int{b}, api.MaxTable)...), getc(b%12)))
	}
	refused(t, of(wide), 0, 1, api.ErrTooBig)
	wide.Blocks = wide.Blocks[:50]
	for b := range wide.Blocks {
		wide.Blocks[b].End.To %= 50
		for k := range wide.Blocks[b].End.Cases {
			wide.Blocks[b].End.Cases[k].To %= 50
		}
	}
	emitted(t, of(wide), 0, 1)
	emitted(t, of(great), 0, 1)
}
