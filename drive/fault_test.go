package drive_test

import (
	"errors"
	"fmt"
	"testing"

	"switchback/api"
	"switchback/drive"
)

func TestFaultsTell(t *testing.T) {
	for want, f := range map[string]drive.Fault{
		"text 14 0":   {Stage: 1, Code: api.ErrLexByte},
		"tree 20 3":   {Stage: 2, Code: api.ErrParseToken, At: 3},
		"sense 39 0":  {Stage: 3, Code: api.ErrCheckMain},
		"size 174 0":  {Stage: 4, Code: api.ErrTooBig},
		"size 0 -1":   {Stage: 4, At: -1},
		"text -12 34": {Stage: 1, Code: -12, At: 34},
		" 0 0":        {},
		" 174 20000":  {Stage: 5, Code: api.ErrTooBig, At: 20000},
		" 2 -20":      {Stage: -1, Code: api.ErrLong, At: -20},
	} {
		if s := f.Error(); s != want {
			t.Errorf("%+v: %q, want %q", f, s, want)
		}
	}
}

func TestFaultsWrap(t *testing.T) {
	stages := []error{drive.ErrText, drive.ErrTree, drive.ErrSense, drive.ErrSize}
	for i, name := range []string{"text", "tree", "sense", "size"} {
		if stages[i].Error() != name {
			t.Errorf("%v, want %s", stages[i], name)
		}
	}
	for stage := -1; stage < 7; stage++ {
		f := &drive.Fault{Stage: stage, Code: api.ErrLong, At: 5}
		is := 0
		for i, err := range stages {
			if errors.Is(f, err) != (stage == i+1) {
				t.Errorf("the stage %d, and %v", stage, err)
			}
			if f.Unwrap() == err {
				is++
			}
		}
		if (is == 1) != (stage >= 1 && stage <= 4) || is == 0 && f.Unwrap() != nil {
			t.Errorf("the stage %d: %v", stage, f.Unwrap())
		}
	}
}

// TestAsked has errors of sources of each stage asked, also behind another error.
func TestAsked(t *testing.T) {
	for src, want := range map[string]error{"$": drive.ErrText, "int main(){": drive.ErrTree, "int x;": drive.ErrSense} {
		_, err := drive.Compile(src)
		for _, err := range []error{err, fmt.Errorf("in a file: %w", err)} {
			var f *drive.Fault
			if !errors.Is(err, want) || !errors.As(err, &f) || f.Unwrap() != want {
				t.Errorf("%q: %v", src, err)
			}
		}
	}
}

// TestNoFault: none of the methods panics.
func TestNoFault(t *testing.T) {
	var f *drive.Fault
	if f.Error() != "" || f.Unwrap() != nil {
		t.Errorf("%q, %v", f.Error(), f.Unwrap())
	}
}
