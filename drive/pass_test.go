package drive

import (
	"errors"
	"reflect"
	"slices"
	"testing"

	"switchback/alloc"
	"switchback/api"
	"switchback/sample"
	"switchback/switches"
)

// TestNoRoomForAPass has a module in which there is no temp left for a switch: the same module stands in its place, in memory of its own. (No source has as many temps.)
func TestNoRoomForAPass(t *testing.T) {
	cases := []api.Case{{N: 1, To: 0}, {N: 100, To: 0}}
	m := api.Module{Globals: []uint32{1}, Arrays: []int{2}, Funcs: []api.Graph{{Temps: api.MaxTemps, Blocks: []api.Block{
		{Code: []api.Ins{{Op: api.InsGetc}}, End: api.End{Kind: api.EndSwitch, Cases: cases, To: 1}}, {End: api.End{Kind: api.EndReturn}},
	}}}}
	if _, e := switches.Lower(m); e != api.ErrLong {
		t.Fatal(e)
	}
	if same := pass(switches.Lower).of(m); !reflect.DeepEqual(same, m) || sample.Shared(same, m) {
		t.Errorf("%+v", same)
	}
	want, _ := alloc.Alloc(m)
	if got := pass(alloc.Alloc).of(m); !reflect.DeepEqual(got, want) || got.Funcs[0].Temps != 1 {
		t.Errorf("%+v", got)
	}
}

// TestTooBig has modules whose images are just not too big, and too big. (No source is known whose image is.)
func TestTooBig(t *testing.T) {
	row := func(n int) api.Module {
		code := slices.Repeat([]api.Ins{{Op: api.InsNeg}}, n)
		return api.Module{Globals: []uint32{7}, Funcs: slices.Repeat([]api.Graph{{Temps: 1, Blocks: []api.Block{{Code: code, End: api.End{Kind: api.EndReturn}}}}}, 2)}
	}
	image, err := imageOf(row(29000))
	if err != nil || len(image.Words) < 58000 || len(image.Words) > api.ImageWords || len(image.Data) != 1 {
		t.Errorf("%d words, %v", len(image.Words), err)
	}
	image, err = imageOf(row(33000))
	var f *Fault
	if !errors.Is(err, ErrSize) || !errors.As(err, &f) || *f != (Fault{4, api.ErrTooBig, 0}) || !reflect.DeepEqual(image, api.Image{}) {
		t.Errorf("%d words, %v", len(image.Words), err)
	}
}
