package drive

import (
	"errors"
	"strconv"

	"switchback/api"
)

// The stages.
const (
	stageText = 1 + iota
	stageTree
	stageSense
	stageSize
)

// Fault is what is wrong with a source: the stage, the code, and the place.
type Fault struct {
	Stage int
	Code  api.Errno
	At    int
}

// The stages' errors.
var (
	ErrText  = errors.New("text")
	ErrTree  = errors.New("tree")
	ErrSense = errors.New("sense")
	ErrSize  = errors.New("size")
)

// Error tells it.
func (f *Fault) Error() string {
	if f == nil {
		return ""
	}
	stage := ""
	if err := f.Unwrap(); err != nil {
		stage = err.Error()
	}
	return stage + " " + strconv.Itoa(int(f.Code)) + " " + strconv.Itoa(f.At)
}

// Unwrap is the stage's error.
func (f *Fault) Unwrap() error {
	if f == nil {
		return nil
	}
	switch f.Stage {
	case stageText:
		return ErrText
	case stageTree:
		return ErrTree
	case stageSense:
		return ErrSense
	case stageSize:
		return ErrSize
	}
	return nil
}
