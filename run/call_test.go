package run_test

import (
	"testing"

	"switchback/api"
)

func call(d, f int, args ...int) api.Ins {
	return api.Ins{Op: api.InsCall, D: d, F: f, Args: args}
}

func calling(main api.Graph, others ...api.Graph) api.Module {
	m := module()
	m.Funcs = append([]api.Graph{main}, others...)
	return m
}

func TestArgumentsBecomeParams(t *testing.T) {
	less := function(block(back(0), api.Ins{Op: api.InsSub, D: 0, A: 3, B: 1}))
	less.Params = []int{3, 1}
	main := function(block(back(2), set(0, 30), set(1, 12), call(2, 1, 0, 1)))
	is(t, "the first less the second", ran(t, calling(main, less), "", 99), exit(18, 6))
	main = function(block(back(2), set(0, 30), call(2, 1, 0, 0)))
	is(t, "one temp twice", ran(t, calling(main, less), "", 99), exit(0, 5))
	main = function(block(back(2), set(2, 5), set(0, 30), call(-1, 1, 0, 1)))
	is(t, "to nowhere", ran(t, calling(main, less), "", 99), exit(5, 6))
	main = function(block(back(0), set(0, 30), call(0, 1, 0, 1)))
	is(t, "into an argument", ran(t, calling(main, less), "", 99), exit(30, 5))
}

func TestWhatACallGives(t *testing.T) {
	nothing := function(block(back(-1), set(0, 9)))
	main := function(block(back(2), set(2, 5), call(2, 1)))
	is(t, "a return of nothing gives 0", ran(t, calling(main, nothing), "", 99), exit(0, 5))
	leave := function(block(jump(0), api.Ins{Op: api.InsExit, A: 3}))
	is(t, "an exit inside", ran(t, calling(main, leave), "", 99), exit(0, 3))
	bad := function(block(jump(0), api.Ins{Op: api.InsDivU, A: 3, B: 3}))
	is(t, "a trap inside", ran(t, calling(main, bad), "", 99), trapped(api.TrapDiv, 3))
	is(t, "no fuel inside", ran(t, calling(main, nothing), "", 2), api.Outcome{Stop: api.StopFuel, Steps: 2})
	is(t, "no fuel for the call", ran(t, calling(main, nothing), "", 1), api.Outcome{Stop: api.StopFuel, Steps: 1})
	is(t, "no fuel behind the call", ran(t, calling(main, nothing), "", 4), api.Outcome{Stop: api.StopFuel, Steps: 4})
}

func TestMainIsCalledWhereItSays(t *testing.T) {
	m := calling(function(block(back(0), set(0, 1))), function(block(back(0), set(0, 2), call(0, 0))))
	m.Main = 1
	is(t, "Main 1", ran(t, m, "", 99), exit(1, 5))
}

// TestEachCallHasItsOwn calls a function twice, that spoils its temps and its array: they are 0 at the beginning of each call.
func TestEachCallHasItsOwn(t *testing.T) {
	spoil := function(block(back(2),
		api.Ins{Op: api.InsGet, F: 1, D: 0, A: 1},
		api.Ins{Op: api.InsAdd, D: 2, A: 2, B: 0},
		api.Ins{Op: api.InsAdd, D: 2, A: 2, B: 3},
		set(3, 1), set(0, 50),
		api.Ins{Op: api.InsPut, F: 1, A: 1, B: 0}))
	main := function(block(back(1), set(3, 7), api.Ins{Op: api.InsPut, F: 1, A: 2, B: 3},
		call(0, 1), call(1, 1), api.Ins{Op: api.InsAdd, D: 1, A: 1, B: 0},
		api.Ins{Op: api.InsGet, F: 1, D: 0, A: 2}, api.Ins{Op: api.InsAdd, D: 1, A: 1, B: 0},
		api.Ins{Op: api.InsAdd, D: 1, A: 1, B: 3}))
	is(t, "calls one behind the other", ran(t, calling(main, spoil), "", 99), exit(14, 23))
	// A call in which another one's memory was: more temps behind fewer, fewer behind more.
	small := api.Graph{Temps: 1, Blocks: []api.Block{block(back(0), set(0, 3))}}
	main = function(block(back(1), call(0, 2), call(0, 1), call(0, 2), call(1, 1)))
	is(t, "calls of unlike sizes", ran(t, calling(main, spoil, small), "", 99), exit(0, 23))
}

func TestArraysAreHandedOver(t *testing.T) {
	// The function 1 gets a scalar and two arrays, and puts the scalar into the second one's element 1, having read the first one's.
	inner := function(block(back(2),
		set(1, 1),
		api.Ins{Op: api.InsGet, F: 1, D: 2, A: 1},
		api.Ins{Op: api.InsPut, F: 3, A: 1, B: 0}))
	inner.Params = []int{0}
	inner.Arrays = []api.Array{{Kind: api.ArrayLocal, N: 1}, {Kind: api.ArrayParam}, {Kind: api.ArrayGlobal}, {Kind: api.ArrayParam}}
	// The function 2 hands over what it gets, the other way round.
	outer := function(block(back(1), api.Ins{Op: api.InsCall, D: 1, F: 1, Args: []int{3}, Arrs: []int{1, 0}}))
	outer.Params, outer.Arrays = []int{3}, []api.Array{{Kind: api.ArrayParam}, {Kind: api.ArrayParam}}
	main := function(block(back(3),
		set(0, 1), set(1, 40),
		api.Ins{Op: api.InsPut, F: 0, A: 0, B: 1}, // the global one's is 40
		set(1, 2),
		api.Ins{Op: api.InsCall, D: 3, F: 2, Args: []int{1}, Arrs: []int{1, 0}}, // gives 40; the local one's becomes 2
		api.Ins{Op: api.InsGet, F: 1, D: 2, A: 0},
		api.Ins{Op: api.InsAdd, D: 3, A: 3, B: 2},
	))
	is(t, "arrays through two calls", ran(t, calling(main, inner, outer), "", 99), exit(42, 14))
	is(t, "one array twice", ran(t, calling(function(block(back(3), set(1, 8),
		api.Ins{Op: api.InsCall, D: 3, F: 2, Args: []int{1}, Arrs: []int{0, 0}},
		api.Ins{Op: api.InsCall, D: 3, F: 2, Args: []int{0}, Arrs: []int{0, 0}})), inner, outer), "", 99), exit(8, 16))
	short := calling(main, inner, outer)
	short.Funcs[0].Arrays[1].N = 1
	is(t, "an index of the array that was handed over", ran(t, short, "", 99), trapped(api.TrapIndex, 9))
}

// deep is a function that calls itself as often as its temp says, then gives how often.
func deep(times uint32) api.Module {
	down := function(
		block(api.End{Kind: api.EndIf, Op: api.InsEq, A: 0, B: 1, To: 1, Else: 2}),
		block(back(0)),
		block(back(0), set(2, 1), api.Ins{Op: api.InsSub, D: 0, A: 0, B: 2}, call(0, 1, 0), api.Ins{Op: api.InsAdd, D: 0, A: 0, B: 2}))
	down.Params = []int{0}
	return calling(function(block(back(0), set(0, times), call(0, 1, 0))), down)
}

func TestDepth(t *testing.T) {
	is(t, "50 calls", ran(t, deep(48), "", 9999), exit(48, 48*6+2+3))
	is(t, "51 calls", ran(t, deep(49), "", 9999), trapped(api.TrapDepth, 2+49*4))
	self := calling(function(block(back(0), call(0, 0))))
	is(t, "Main calls itself", ran(t, self, "", 999), trapped(api.TrapDepth, 50))
	is(t, "just no fuel for the trap", ran(t, self, "", 49), api.Outcome{Stop: api.StopFuel, Steps: 49})
	is(t, "just enough fuel for the trap", ran(t, self, "", 50), trapped(api.TrapDepth, 50))
}

// TestCallsOneBehindTheOther: what is over is open no more.
func TestCallsOneBehindTheOther(t *testing.T) {
	m := calling(function(
		block(api.End{Kind: api.EndIf, Op: api.InsLtU, A: 0, B: 2, To: 0, Else: 1}, set(1, 1), set(2, 200), call(3, 1), api.Ins{Op: api.InsAdd, D: 0, A: 0, B: 1}),
		block(back(0))), function(block(back(-1))))
	is(t, "200 calls", ran(t, m, "", 9999), exit(200, 200*6+1))
}
