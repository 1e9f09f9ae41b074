package temps

import (
	"iter"
	"math/bits"

	"switchback/api"
)

// Wide is how many temps stand in one word of a set.
const Wide = 64

// Set is a set of temps, of a graph with as many as there may be: a bit for each one.
type Set [(api.MaxTemps + Wide - 1) / Wide]uint64

// Add puts a temp in.
func (s *Set) Add(t int) {
	s[t/Wide] |= 1 << (t % Wide)
}

// Remove takes a temp out.
func (s *Set) Remove(t int) {
	s[t/Wide] &^= 1 << (t % Wide)
}

// Has tells whether a temp is in.
func (s *Set) Has(t int) bool {
	return s[t/Wide]>>(t%Wide)&1 == 1
}

// Join puts in all that another set has.
func (s *Set) Join(other *Set) {
	for w := range s {
		s[w] |= other[w]
	}
}

// Count is how many are in.
func (s *Set) Count() int {
	n := 0
	for _, word := range s {
		n += bits.OnesCount64(word)
	}
	return n
}

// All are those that are in, rising; the set is to stay as it is meanwhile.
func (s *Set) All() iter.Seq[int] {
	return func(yield func(int) bool) {
		for w, word := range s {
			for ; word != 0; word &= word - 1 {
				if !yield(w*Wide + bits.TrailingZeros64(word)) {
					return
				}
			}
		}
	}
}

// Leave takes out all that another set has.
func (s *Set) Leave(other *Set) {
	for w := range s {
		s[w] &^= other[w]
	}
}
