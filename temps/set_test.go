package temps_test

import (
	"math/rand"
	"slices"
	"testing"

	"switchback/api"
	"switchback/temps"
)

// listed is a set as a list, told by Has alone.
func listed(s *temps.Set) []int {
	var l []int
	for t := range api.MaxTemps {
		if s.Has(t) {
			l = append(l, t)
		}
	}
	return l
}

// same checks that a set has just some temps.
func same(t *testing.T, s *temps.Set, want []int) {
	t.Helper()
	if got := listed(s); !slices.Equal(got, want) {
		t.Fatalf("has %d, want %d", got, want)
	}
	if got := slices.Collect(s.All()); !slices.Equal(got, want) || s.Count() != len(want) {
		t.Fatalf("all are %d, %d of them, want %d", got, s.Count(), want)
	}
}

func TestEachTempAlone(t *testing.T) {
	for temp := range api.MaxTemps {
		var s temps.Set
		s.Add(temp)
		s.Add(temp)
		if !slices.Equal(slices.Collect(s.All()), []int{temp}) || s.Count() != 1 || !s.Has(temp) {
			t.Fatalf("%d alone", temp)
		}
		s.Remove(temp)
		s.Remove(temp)
		if s != (temps.Set{}) || s.Has(temp) {
			t.Fatalf("%d taken out", temp)
		}
	}
}

// random is a set, and the same as a map.
func random(r *rand.Rand) (s temps.Set, in map[int]int) {
	in = map[int]int{}
	for range r.Intn(300) {
		temp := r.Intn(api.MaxTemps)
		if r.Intn(2) == 0 {
			temp %= 150
		}
		s.Add(temp)
		in[temp] = 1
		if r.Intn(3) == 0 {
			temp = r.Intn(150)
			s.Remove(temp)
			delete(in, temp)
		}
	}
	return s, in
}

func TestSets(t *testing.T) {
	r := rand.New(rand.NewSource(1))
	for range 300 {
		a, inA := random(r)
		b, inB := random(r)
		both, left, ofB := []int(nil), []int(nil), []int(nil)
		for temp := range api.MaxTemps {
			if inA[temp]+inB[temp] > 0 {
				both = append(both, temp)
			}
			if inA[temp] > inB[temp] {
				left = append(left, temp)
			}
			if inB[temp] > 0 {
				ofB = append(ofB, temp)
			}
		}
		joined, less := a, a
		joined.Join(&b)
		less.Leave(&b)
		same(t, &joined, both)
		same(t, &less, left)
		same(t, &b, ofB)
	}
}

func TestStopped(t *testing.T) {
	var s temps.Set
	for _, temp := range []int{3, 5, 64, 7999} {
		s.Add(temp)
	}
	for most := 1; most <= 4; most++ {
		var l []int
		for temp := range s.All() {
			if l = append(l, temp); len(l) == most {
				break
			}
		}
		if !slices.Equal(l, []int{3, 5, 64, 7999}[:most]) {
			t.Errorf("%d", l)
		}
	}
}
