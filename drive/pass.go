package drive

import (
	"switchback/alloc"
	"switchback/api"
	"switchback/fold"
	"switchback/graph"
	"switchback/switches"
	"switchback/tails"
	"switchback/thread"
)

// pass makes a module of a module.
type pass func(m api.Module) (api.Module, api.Errno)

// passes are those through which a program's module goes.
func passes() []pass {
	return []pass{fold.Fold, thread.Thread, tails.Merge, switches.Lower, thread.Thread, alloc.Alloc}
}

// of is the module that a pass makes of another one: the same, where the pass has no room for what it does.
func (p pass) of(m api.Module) api.Module {
	result, e := p(m)
	if e != api.OK {
		return graph.Copy(m)
	}
	return result
}
