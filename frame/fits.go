package frame

import (
	"slices"

	"switchback/api"
	"switchback/machine"
)

// maxArrays is how many arrays a graph may know.
const maxArrays = 500

// paramsFit tells whether the parameters of a graph are as they must be.
func paramsFit(g api.Graph) bool {
	if len(g.Params) > api.MaxParams {
		return false
	}
	for i, p := range g.Params {
		if p < 0 || p >= g.Temps || slices.Contains(g.Params[:i], p) {
			return false
		}
	}
	return true
}

func arraysFit(arrays []api.Array) bool {
	if len(arrays) > maxArrays {
		return false
	}
	for _, a := range arrays {
		if a.Kind < api.ArrayGlobal || a.Kind > api.ArrayParam || a.Kind == api.ArrayLocal && (a.N < 1 || a.N > api.MaxArray) {
			return false
		}
	}
	words := wordsOf(arrays)
	return words.local <= api.MaxLocal && words.handed <= machine.Handed*api.MaxParams
}

// arrayWords is how many words of a frame local arrays take, and those that are handed over.
type arrayWords struct {
	local, handed int
}

func wordsOf(arrays []api.Array) arrayWords {
	var w arrayWords
	for _, a := range arrays {
		switch a.Kind {
		case api.ArrayLocal:
			w.local += a.N
		case api.ArrayParam:
			w.handed += machine.Handed
		}
	}
	return w
}
