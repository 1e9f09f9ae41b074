package switches_test

import (
	"math/rand"
	"slices"
	"testing"

	"switchback/api"
	"switchback/switches"
)

const top = 1<<32 - 1

// cases are cases of some numbers, that go to blocks from the block 1 on.
func cases(numbers ...uint32) []api.Case {
	var l []api.Case
	for i, n := range numbers {
		l = append(l, api.Case{N: n, To: 1 + i})
	}
	return l
}

// upTo are the numbers from one on to another one, and some more.
func upTo(first, last uint32, more ...uint32) []uint32 {
	var l []uint32
	for n := first; n <= last; n++ {
		l = append(l, n)
	}
	return append(l, more...)
}

// singles are so many pieces of one case, from a case on.
func singles(first, n int) [][2]int {
	var l [][2]int
	for i := range n {
		l = append(l, [2]int{first + i, first + i})
	}
	return l
}

func TestPlan(t *testing.T) {
	for name, x := range map[string]struct {
		numbers []uint32
		want    [][2]int
	}{
		"example 1":                    {[]uint32{1, 2, 3, 4, 100}, [][2]int{{0, 3}, {4, 4}}},
		"example 1, 12 in a hundred":   {[]uint32{10, 20, 30, 40}, singles(0, 4)},
		"example 1, each other one":    {[]uint32{0, 2, 4, 6}, [][2]int{{0, 3}}},
		"example 2":                    {[]uint32{0, 1, 2}, singles(0, 3)},
		"example 2, twice":             {[]uint32{5, 5}, nil},
		"none":                         {nil, nil},
		"one":                          {[]uint32{top}, singles(0, 1)},
		"four":                         {upTo(7, 10), [][2]int{{0, 3}}},
		"not sorted":                   {[]uint32{100, 4, 2, 1, 3}, [][2]int{{0, 3}, {4, 4}}},
		"twice, far apart":             {append(upTo(1, 20), 3), nil},
		"twice at the end":             {append(upTo(1, 20), top, top), nil},
		"twice at the beginning":       {append(upTo(0, 20), 0), nil},
		"at the words' end":            {upTo(top-4, top-1, top), [][2]int{{0, 4}}},
		"at the words' beginning":      {upTo(0, 5), [][2]int{{0, 5}}},
		"not over the words' end":      {[]uint32{top - 1, top, 0, 1}, singles(0, 4)},
		"both ends":                    {[]uint32{0, top}, singles(0, 2)},
		"all words":                    {[]uint32{0, 1, 2, top}, singles(0, 4)},
		"all words, and a piece":       {upTo(0, 3, top), [][2]int{{0, 3}, {4, 4}}},
		"all words but one":            {[]uint32{1, 2, 3, top}, singles(0, 4)},
		"around the highest bit":       {upTo(1<<31-2, 1<<31+1), [][2]int{{0, 3}}},
		"4 over 10":                    {[]uint32{5, 6, 7, 14}, [][2]int{{0, 3}}},
		"4 over 11":                    {[]uint32{5, 6, 7, 15}, singles(0, 4)},
		"40 over a hundred":            {upTo(0, 38, 99), [][2]int{{0, 39}}},
		"39 over a hundred":            {upTo(0, 37, 99), [][2]int{{0, 37}, {38, 38}}},
		"over 400":                     {upTo(1000, 1399), [][2]int{{0, 399}}},
		"over 401":                     {upTo(1000, 1400), [][2]int{{0, 399}, {400, 400}}},
		"160 over 400":                 {upTo(0, 158, 399), [][2]int{{0, 159}}},
		"159 over 400":                 {upTo(0, 157, 399), [][2]int{{0, 157}, {158, 158}}},
		"161 over 401":                 {upTo(0, 159, 400), [][2]int{{0, 159}, {160, 160}}},
		"five, but not four of them":   {[]uint32{0, 8, 9, 10, 11}, [][2]int{{0, 4}}},
		"a hole, and again":            {[]uint32{0, 1, 2, 3, 16, 17, 18, 19, 20, 21}, [][2]int{{0, 9}}},
		"a hole, and no more":          {[]uint32{0, 1, 2, 3, 20, 21, 22, 23}, [][2]int{{0, 3}, {4, 7}}},
		"from the left":                {[]uint32{0, 100, 101, 102, 103, 300, 301, 302}, [][2]int{{0, 0}, {1, 4}, {5, 5}, {6, 6}, {7, 7}}},
		"four, not five, but eight":    {[]uint32{0, 7, 8, 9, 16, 17, 18, 19}, [][2]int{{0, 7}}},
		"two tables beside each other": {upTo(0, 799), [][2]int{{0, 399}, {400, 799}}},
		"three left":                   {upTo(0, 402), append([][2]int{{0, 399}}, singles(400, 3)...)},
		"four left":                    {upTo(0, 403), [][2]int{{0, 399}, {400, 403}}},
	} {
		if got := switches.Plan(cases(x.numbers...)); !slices.Equal(got, x.want) {
			t.Errorf("%s: %d, want %d", name, got, x.want)
		}
	}
}

// planAgain reads the chapter's words: of all pieces that may be, from each case that is left on, it takes the longest.
func planAgain(l []api.Case) [][2]int {
	var numbers []int
	for _, c := range l {
		numbers = append(numbers, int(c.N))
	}
	slices.Sort(numbers)
	if len(slices.Compact(slices.Clone(numbers))) < len(l) {
		return nil
	}
	var plan [][2]int
	for first := 0; first < len(numbers); {
		last := first
		for i := first; i < len(numbers); i++ {
			n, s := i-first+1, numbers[i]-numbers[first]+1
			if n >= 4 && s <= 400 && 10*n >= 4*s {
				last = i
			}
		}
		plan = append(plan, [2]int{first, last})
		first = last + 1
	}
	return plan
}

// planned holds a plan against the chapter's words.
func planned(t *testing.T, l []api.Case) {
	t.Helper()
	ahead := slices.Clone(l)
	got := switches.Plan(l)
	if want := planAgain(l); !slices.Equal(got, want) {
		t.Fatalf("%+v: %d, want %d", l, got, want)
	}
	if !slices.Equal(l, ahead) {
		t.Fatalf("%+v: the cases are changed", ahead)
	}
}

// TestPlanOfAllSets has all sets of numbers below 15, at both ends of a word and in its middle.
func TestPlanOfAllSets(t *testing.T) {
	t.Parallel()
	for bits := range 1 << 15 {
		for _, base := range []uint32{0, 1<<31 - 7, top - 14} {
			var numbers []uint32
			for n := range uint32(15) {
				if bits>>n&1 == 1 {
					numbers = append(numbers, base+(n*7)%15)
				}
			}
			planned(t, cases(numbers...))
		}
	}
}

// someNumbers are unlike numbers: they lie in heaps that are more or less dense, anywhere.
func someNumbers(r *rand.Rand, most int) []uint32 {
	seen := map[uint32]int{}
	for len(seen) < most {
		base, n, wide := r.Uint32()>>r.Intn(32), 1+r.Intn(most), 1+r.Intn(5)
		if r.Intn(8) == 0 {
			base = -uint32(r.Intn(500))
		}
		for range n {
			if len(seen) < most {
				seen[base+uint32(r.Intn(n*wide))] = 1
			}
		}
	}
	var l []uint32
	for n := range seen {
		l = append(l, n)
	}
	slices.Sort(l)
	r.Shuffle(len(l), func(i, j int) { l[i], l[j] = l[j], l[i] })
	return l
}

func TestPlanOfSomeNumbers(t *testing.T) {
	t.Parallel()
	r := rand.New(rand.NewSource(1))
	for range 3000 {
		numbers := someNumbers(r, 1+r.Intn(1+r.Intn(700)))
		if r.Intn(10) == 0 {
			numbers = append(numbers, numbers[r.Intn(len(numbers))])
		}
		planned(t, cases(numbers...))
	}
}

// TestPlanOfMoreCasesThanMayBe has more cases than a module's switch may have.
func TestPlanOfMoreCasesThanMayBe(t *testing.T) {
	const all = 400000
	var dense, wide []uint32
	for i := range uint32(all) {
		dense = append(dense, (i*7919)%all)
		wide = append(wide, i*4)
	}
	got := switches.Plan(cases(dense...))
	if len(got) != all/api.MaxTable || got[1] != [2]int{400, 799} {
		t.Errorf("%d pieces", len(got))
	}
	if got := switches.Plan(cases(wide...)); !slices.Equal(got, singles(0, all)) {
		t.Errorf("%d pieces", len(got))
	}
}

func TestPlanIsNewMemory(t *testing.T) {
	l := cases(1, 2, 3, 4, 9)
	switches.Plan(l)[0] = [2]int{7, 7}
	if got := switches.Plan(l); !slices.Equal(got, [][2]int{{0, 4}}) {
		t.Errorf("%d", got)
	}
}
