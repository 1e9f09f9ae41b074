package model

import (
	"errors"
	"strconv"

	"switchback/api"
)

// outOfFuel stops a run that has taken as many steps as it may.
type outOfFuel struct{}

func (outOfFuel) Error() string {
	return "out of fuel"
}

// exited stops a run with a code.
type exited struct {
	code uint32
}

func (x exited) Error() string {
	return "exit " + strconv.FormatUint(uint64(x.code), 10)
}

// trapped stops a run by a trap.
type trapped struct {
	trap uint32
}

func (t trapped) Error() string {
	return "trap " + strconv.FormatUint(uint64(t.trap), 10)
}

// within is a stop, as the call sees it in which it came about, or a call of that one.
type within struct {
	function string
	stop     error
}

func (w within) Error() string {
	return w.function + ": " + w.stop.Error()
}

func (w within) Unwrap() error {
	return w.stop
}

// outcome tells how the run stopped: main gave a code, or something stopped it ahead of that.
func (m *machine) outcome(code uint32, stop error) api.Outcome {
	o := api.Outcome{Stop: api.StopExit, Code: code, Output: string(m.output), Steps: m.steps}
	var x exited
	var t trapped
	switch {
	case errors.Is(stop, outOfFuel{}):
		o.Stop, o.Code = api.StopFuel, 0
	case errors.As(stop, &x):
		o.Code = x.code
	case errors.As(stop, &t):
		o.Stop, o.Code = api.StopTrap, t.trap
	}
	return o
}
