// Package machine tells how functions share the machine: what its registers are for, and what stands where in its memory.
package machine

import "switchback/api"

// The registers behind those that are temps.
const (
	Result = api.Regs + iota // what a function gives back; within one it is free
	Spare                    // free within a function
	Frame                    // where the frame of the function that runs begins
)

// Borrowed is the register of a temp that serves beside the free ones where local arrays become 0; what it held is kept for the caller.
const Borrowed = 0

// Handed is how many words an array is as an argument: where it begins, and how many words it has.
const Handed = 2

// Arrays are the places at which a module's global arrays begin: one behind the other, behind the global scalars, each of which stands at its own number.
func Arrays(m api.Module) []int {
	places := make([]int, len(m.Arrays))
	at := len(m.Globals)
	for i, words := range m.Arrays {
		places[i] = at
		at += words
	}
	return places
}

// Frames is the place at which the first frame begins: behind all that is global. The frame of a function that is called begins where that of its caller ends, with the arguments: a word for each of Params, then the words of each ArrayParam.
func Frames(m api.Module) int {
	at := len(m.Globals)
	for _, words := range m.Arrays {
		at += words
	}
	return at
}
