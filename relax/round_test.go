package relax_test

import (
	"math/rand"
	"slices"
	"testing"

	"switchback/api"
	"switchback/relax"
)

// chain is a list of n branches, each of which becomes long just because all of those did over which it goes: one a round. Each goes back, over others and the words ahead of them all; or to the front, which is the same list turned round.
func chain(n int, x api.Line, front bool) []api.Line {
	more, over := 2, 43 // by how much a long one is longer; how many others one goes over at most
	if x.Op == api.MacJMP {
		more, over = 1, 64
	}
	var l []api.Line
	for words := 128; words > 0; words-- {
		if k := (128 - words) / (more + 1); k < min(n, over) && words == 128-k*(more+1) {
			l = append(l, at(k))
		}
		l = append(l, ret)
	}
	for k := range n {
		if k+over < n {
			l = append(l, at(k+over))
		}
		x.Label = k
		l = append(l, x)
	}
	if front {
		slices.Reverse(l)
	}
	return l
}

// without is a list without the line of a chain that is long from the first round on: a MacRET stands there.
func without(l []api.Line) []api.Line {
	l = slices.Clone(l)
	for i := range l {
		if isBranch(l[i]) && l[i].Label == 0 {
			l[i] = ret
		}
	}
	return l
}

// TestChains has as many rounds as there may be: one more than there are branches. Without the first one there is just one round.
func TestChains(t *testing.T) {
	t.Parallel()
	for _, x := range []api.Line{beq(0), branch(api.MacBGEU, 3, 4, 0), jmp(0)} {
		for _, n := range []int{1, 2, 3, 10, 42, 43, 44, 45, 63, 64, 65, 66, 127, 128, 129, 130, 300} {
			for _, front := range []bool{false, true} {
				l := chain(n, x, front)
				if a := good(t, l); a.Rounds != n+1 {
					t.Errorf("%d branches, to the front %v: %d rounds", n, front, a.Rounds)
				}
				if a := good(t, without(l)); a.Rounds != 1 || len(a.Words) != 128+n {
					t.Errorf("%d branches but the first one, to the front %v: %d rounds, %d words", n, front, a.Rounds, len(a.Words))
				}
			}
		}
	}
}

// TestGreatChains has chains that nearly fill an image, round by round.
func TestGreatChains(t *testing.T) {
	t.Parallel()
	for _, front := range []bool{false, true} {
		for n, x := range map[int]api.Line{21800: beq(0), 29900: jmp(0)} {
			l := chain(n, x, front)
			a, line, e := relax.Assemble(l)
			if e != api.OK || line != 0 || a.Rounds != n+1 || len(a.Words) != 128+n*size(x, true) {
				t.Errorf("%d branches: %d, %d rounds, %d words", n, e, a.Rounds, len(a.Words))
			}
			a, _, e = relax.Assemble(without(l))
			if e != api.OK || a.Rounds != 1 || len(a.Words) != 128+n {
				t.Errorf("%d branches but the first one: %d, %d rounds, %d words", n, e, a.Rounds, len(a.Words))
			}
		}
	}
}

// knot is a list of n branches, most of which go about as far as a short one may, to the front or back, over one another.
func knot(r *rand.Rand, n int) []api.Line {
	least := 50 + r.Intn(60)
	goals := make([][]int, n+1)
	l := make([]api.Line, n)
	for i := range l {
		far := least + r.Intn(115-least)
		if r.Intn(n) == 0 {
			far = r.Intn(140)
		}
		if r.Intn(2) == 0 {
			far = -far
		}
		to := min(max(i+far, 0), n)
		goals[to] = append(goals[to], i)
		switch r.Intn(8) {
		case 0, 1:
			l[i] = jmp(i)
		case 2:
			l[i] = ret
		case 3:
			l[i] = lit(r.Intn(12), r.Uint32())
		default:
			l[i] = branch(api.MacBEQ+r.Intn(10), r.Intn(12), r.Intn(12), i)
		}
	}
	var all []api.Line
	for i, labels := range goals {
		for _, label := range labels {
			all = append(all, at(label))
		}
		if i < n {
			all = append(all, l[i])
		}
	}
	return all
}

// TestKnots has branches that become long round by round, many of them beside one another.
func TestKnots(t *testing.T) {
	t.Parallel()
	r := rand.New(rand.NewSource(1))
	rounds := map[int]int{}
	for range 1500 {
		a := good(t, knot(r, 1+r.Intn(300)))
		rounds[min(a.Rounds, 8)]++
	}
	for n := 1; n <= 8; n++ {
		if rounds[n] < 10 {
			t.Errorf("rounds %v", rounds)
		}
	}
}

// few is a list of a few branches, with words between them that are just about as many as a short one may go over, or half of that.
func few(r *rand.Rand) []api.Line {
	n := 1 + r.Intn(9)
	labels := r.Perm(n)
	var l []api.Line
	for len(labels) > 0 || n > 0 {
		switch {
		case n > 0 && r.Intn(2) == 0:
			n--
			l = append(l, jmp(n))
			if r.Intn(3) > 0 {
				l[len(l)-1] = branch(api.MacBEQ+r.Intn(10), r.Intn(12), r.Intn(12), n)
			}
		case len(labels) > 0 && r.Intn(3) > 0:
			l = append(l, at(labels[0]))
			labels = labels[1:]
		case r.Intn(3) == 0:
			l = append(l, gap(r)...)
		}
	}
	return l
}

// gap is some words, which are no branch's.
func gap(r *rand.Rand) []api.Line {
	n := []int{1, 2, 10, 30, 40, 60, 62, 64, 118, 120, 122, 124, 126}[r.Intn(13)] + r.Intn(3)
	if r.Intn(3) == 0 {
		return times(n, ret)
	}
	return append(times(n/2, lit(1, 2)), times(n%2, ret)...)
}

// longOf tells of each line of a list whether it was made long.
func longOf(l []api.Line, a api.Assembly) []bool {
	long := make([]bool, len(l))
	for i, x := range l {
		end := len(a.Words)
		if i+1 < len(l) {
			end = a.Places[i+1]
		}
		long[i] = isBranch(x) && end-a.Places[i] > 1
	}
	return long
}

// choices goes through all choices of which branches of a list are long, and tells those in which the others reach, and which branches are long in all of these.
func choices(l []api.Line) (int, []bool) {
	var branches []int
	least := make([]bool, len(l))
	for i, x := range l {
		if isBranch(x) {
			branches = append(branches, i)
			least[i] = true
		}
	}
	found := 0
	for choice := range 1 << len(branches) {
		long := make([]bool, len(l))
		for k, i := range branches {
			long[i] = choice>>k&1 == 1
		}
		if len(laid(l, long).tooFar(l, long)) > 0 {
			continue
		}
		found++
		for i := range least {
			least[i] = least[i] && long[i]
		}
	}
	return found, least
}

// TestLeast has lists of which all choices are looked at: just those branches are long that are long in all choices in which the others reach (P17.3).
func TestLeast(t *testing.T) {
	t.Parallel()
	r := rand.New(rand.NewSource(2))
	rounds, some := map[int]int{}, 0
	for range 3000 {
		l := few(r)
		a := good(t, l)
		found, least := choices(l)
		if long := longOf(l, a); found == 0 || !slices.Equal(long, least) {
			t.Fatalf("long %v, the least %v\n%s", long, least, told(l))
		}
		rounds[a.Rounds]++
		if slices.Contains(least, true) && found > 1 {
			some++
		}
	}
	if rounds[1] < 100 || rounds[2] < 100 || rounds[3] < 30 || some < 300 {
		t.Errorf("rounds %v, %d lists with choices", rounds, some)
	}
}
