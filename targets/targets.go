// Package targets tells to which blocks ends lead.
package targets

import (
	"iter"

	"switchback/api"
)

// Of are the targets of an end, each as often as the end names it.
func Of(e *api.End) iter.Seq[*int] {
	return func(yield func(*int) bool) {
		if e.Kind < api.EndJump || e.Kind > api.EndTable || !yield(&e.To) {
			return
		}
		switch e.Kind {
		case api.EndIf:
			yield(&e.Else)
		case api.EndSwitch:
			for i := range e.Cases {
				if !yield(&e.Cases[i].To) {
					return
				}
			}
		case api.EndTable:
			for i := range e.Targets {
				if !yield(&e.Targets[i]) {
					return
				}
			}
		}
	}
}
