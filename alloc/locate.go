package alloc

import "switchback/temps"

// locator gives temps their locations, one after the other.
type locator struct {
	meets    []temps.Set
	located  temps.Set // the temps that have their location
	location []int
	count    int // how many locations there are
	free     pool
}

// locate gives a temp a location that none of those has that it meets; a new one only if they have all that there are.
func (l *locator) locate(t int) {
	taken := l.taken(t)
	if taken.Count() == l.count {
		l.free.give(l.count)
		l.location[t] = l.count
		l.count++
	} else {
		l.location[t] = l.find(&taken)
	}
	l.located.Add(t)
}

// find takes locations out till one is not taken, and gives all of them back: other temps may have them.
func (l *locator) find(taken *temps.Set) int {
	var out []int
	location := l.free.take()
	for taken.Has(location) {
		out = append(out, location)
		location = l.free.take()
	}
	for _, one := range append(out, location) {
		l.free.give(one)
	}
	return location
}

// taken are the locations of the temps that a temp meets. (Locations are the temps of what comes out.)
func (l *locator) taken(t int) temps.Set {
	var taken temps.Set
	for other := range l.meets[t].All() {
		if l.located.Has(other) {
			taken.Add(l.location[other])
		}
	}
	return taken
}
