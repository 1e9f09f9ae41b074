// Package temps tells which temps instructions and ends use and set, and has sets of temps.
package temps

import (
	"iter"

	"switchback/api"
)

// Used are the temps that an instruction uses, each as often as it does.
func Used(i *api.Ins) iter.Seq[*int] {
	return func(yield func(*int) bool) {
		if usesA(i.Op) && !yield(&i.A) || usesB(i.Op) && !yield(&i.B) || i.Op != api.InsCall {
			return
		}
		for k := range i.Args {
			if !yield(&i.Args[k]) {
				return
			}
		}
	}
}

// UsedByEnd are the temps that an end uses.
func UsedByEnd(e *api.End) iter.Seq[*int] {
	return func(yield func(*int) bool) {
		if endUsesA(e) && !yield(&e.A) {
			return
		}
		if e.Kind == api.EndIf {
			yield(&e.B)
		}
	}
}

// Sets tells whether an instruction sets its D.
func Sets(i *api.Ins) bool {
	switch i.Op {
	case api.InsStore, api.InsPut, api.InsPutc, api.InsExit:
		return false
	case api.InsCall:
		return i.D != -1
	}
	return true
}

func usesA(op int) bool {
	switch op {
	case api.InsConst, api.InsLoad, api.InsCall, api.InsGetc:
		return false
	}
	return true
}

func usesB(op int) bool {
	return ReckonsWithTwo(op) || op == api.InsPut
}

func endUsesA(e *api.End) bool {
	switch e.Kind {
	case api.EndJump:
		return false
	case api.EndReturn:
		return e.A != -1
	}
	return true
}

// ReckonsWithOne tells whether an instruction makes its D of A alone.
func ReckonsWithOne(op int) bool {
	return op >= api.InsMove && op <= api.InsLow
}

// ReckonsWithTwo tells whether an instruction makes its D of A and B.
func ReckonsWithTwo(op int) bool {
	return op >= api.InsAdd && op <= api.InsLeU
}

// Divides tells whether an instruction divides, and so traps where B is 0.
func Divides(op int) bool {
	return op >= api.InsDivS && op <= api.InsRemU
}

// OnlySets tells whether an instruction does nothing but set its D.
func OnlySets(op int) bool {
	return op == api.InsConst || op == api.InsLoad || ReckonsWithOne(op) || ReckonsWithTwo(op) && !Divides(op)
}
