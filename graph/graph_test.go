package graph_test

import (
	"math"
	"math/rand"
	"reflect"
	"slices"
	"testing"

	"switchback/api"
	"switchback/graph"
	"switchback/sample"
)

func TestNext(t *testing.T) {
	g := whole().Funcs[0]
	for b, want := range map[int][]int{-1: nil, math.MinInt: nil, 0: {1, 4}, 1: {0, 2, 4}, 2: {0, 3, 4}, 3: {4}, 4: nil, 5: nil, math.MaxInt: nil} {
		if got := graph.Next(g, b); !slices.Equal(got, want) {
			t.Errorf("Next of %d: %v, want %v", b, got, want)
		}
	}
	if got := graph.Next(api.Graph{}, 0); len(got) != 0 {
		t.Errorf("Next where there is no block: %v", got)
	}
}

func TestNextOfEndsThatMayNotBe(t *testing.T) {
	for _, x := range []struct {
		end  api.End
		want []int
	}{
		{api.End{Kind: api.EndJump, To: -3}, []int{-3}},
		{api.End{Kind: api.EndJump, To: 9, Else: 8, Cases: []api.Case{{To: 7}}, Targets: []int{6}}, []int{9}},
		{api.End{Kind: api.EndIf, To: 5, Else: 5}, []int{5}},
		{api.End{Kind: api.EndIf, To: 5, Else: -5, Cases: []api.Case{{To: 7}}, Targets: []int{6}}, []int{-5, 5}},
		{api.End{Kind: api.EndSwitch, To: 2, Else: 1}, []int{2}},
		{api.End{Kind: api.EndSwitch, To: 2, Cases: []api.Case{{N: 1, To: 9}, {N: 1, To: -9}, {To: 2}}, Targets: []int{6}}, []int{-9, 2, 9}},
		{api.End{Kind: api.EndTable, To: 2, Else: 1, Cases: []api.Case{{To: 7}}}, []int{2}},
		{api.End{Kind: api.EndTable, To: 7, Targets: []int{9, 8, 7, 8, math.MaxInt, math.MinInt}}, []int{math.MinInt, 7, 8, 9, math.MaxInt}},
		{api.End{Kind: api.EndReturn, To: 1, Else: 2, Targets: []int{3}}, nil},
		{api.End{Kind: 0, To: 1, Else: 2, Targets: []int{3}}, nil},
		{api.End{Kind: 6, To: 1, Else: 2, Targets: []int{3}}, nil},
	} {
		if got := graph.Next(api.Graph{Blocks: []api.Block{{}, {End: x.end}}}, 1); !slices.Equal(got, x.want) {
			t.Errorf("%+v: %v, want %v", x.end, got, x.want)
		}
	}
}

// TestNextOfSamples holds Next against a look at all blocks that there are, one by one.
func TestNextOfSamples(t *testing.T) {
	for i := range uint64(500) {
		for _, g := range sample.Module(i).Funcs {
			for b := range g.Blocks {
				var want []int
				for to := range g.Blocks {
					if leads(g.Blocks[b].End, to) {
						want = append(want, to)
					}
				}
				ahead := graph.Copy(api.Module{Funcs: []api.Graph{g}})
				got := graph.Next(g, b)
				if !slices.Equal(got, want) {
					t.Fatalf("%+v: %v, want %v", g.Blocks[b].End, got, want)
				}
				for j := range got {
					got[j] = -7
				}
				if !reflect.DeepEqual(ahead.Funcs[0], g) {
					t.Fatal("what Next answers shares memory with what is handed in")
				}
			}
		}
	}
}

func leads(e api.End, to int) bool {
	if e.Kind == api.EndReturn {
		return false
	}
	for _, c := range e.Cases {
		if c.To == to {
			return true
		}
	}
	return e.To == to || e.Kind == api.EndIf && e.Else == to || slices.Contains(e.Targets, to)
}

// roomy is a module whose lists all have room to spare, with something in it.
func roomy(m api.Module) api.Module {
	widen(reflect.ValueOf(&m).Elem())
	return m
}

func widen(v reflect.Value) {
	switch v.Kind() {
	case reflect.Struct:
		for i := range v.NumField() {
			widen(v.Field(i))
		}
	case reflect.Slice:
		wide := reflect.MakeSlice(v.Type(), v.Len()+3, v.Len()+3)
		reflect.Copy(wide, v)
		v.Set(wide.Slice(0, v.Len()))
		for i := range v.Len() {
			widen(v.Index(i))
		}
	}
}

// overwrite writes into all that is reached from a value, spare room with it.
func overwrite(v reflect.Value) {
	switch v.Kind() {
	case reflect.Struct:
		for i := range v.NumField() {
			overwrite(v.Field(i))
		}
	case reflect.Slice:
		all := v.Slice(0, v.Cap())
		for i := range all.Len() {
			overwrite(all.Index(i))
		}
	case reflect.Int:
		v.SetInt(-77)
	case reflect.Uint32:
		v.SetUint(77)
	}
}

// spare are the elements behind the ends of lists.
func spare(v reflect.Value) []any {
	var found []any
	switch v.Kind() {
	case reflect.Struct:
		for i := range v.NumField() {
			found = append(found, spare(v.Field(i))...)
		}
	case reflect.Slice:
		for i := range v.Len() {
			found = append(found, spare(v.Index(i))...)
		}
		rest := v.Slice(v.Len(), v.Cap())
		for i := range rest.Len() {
			found = append(found, rest.Index(i).Interface())
		}
	}
	return found
}

func TestCopyIsTheSameInMemoryOfItsOwn(t *testing.T) {
	modules := []api.Module{{}, whole(), {Main: -4, Funcs: []api.Graph{{Temps: -1, Arrays: []api.Array{{N: 9}}}, {Blocks: []api.Block{{Code: []api.Ins{{Op: 99, Args: []int{}}}}}}}}}
	for i := range uint64(300) {
		modules = append(modules, sample.Module(i))
	}
	for _, m := range modules {
		m, again := roomy(m), roomy(m)
		c := graph.Copy(m)
		if !reflect.DeepEqual(c, m) {
			t.Fatalf("a copy of %+v: %+v", m, c)
		}
		if checked(c) != checked(m) {
			t.Fatalf("of %+v a copy is told otherwise", m)
		}
		overwrite(reflect.ValueOf(&c).Elem())
		if !reflect.DeepEqual(m, again) || !reflect.DeepEqual(spare(reflect.ValueOf(m)), spare(reflect.ValueOf(again))) {
			t.Fatalf("a copy shares memory with %+v", again)
		}
		if checked(m) != checked(again) {
			t.Fatal("P5.4: what is written into a copy changes the module")
		}
		apart(t, graph.Copy(m))
	}
}

// apart writes into the spare room of each list of a copy: no other list of it may change.
func apart(t *testing.T, c api.Module) {
	t.Helper()
	want := graph.Copy(c)
	var fill func(v reflect.Value)
	fill = func(v reflect.Value) {
		switch v.Kind() {
		case reflect.Struct:
			for i := range v.NumField() {
				fill(v.Field(i))
			}
		case reflect.Slice:
			for i := range v.Len() {
				fill(v.Index(i))
			}
			rest := v.Slice(v.Len(), v.Cap())
			for i := range rest.Len() {
				overwrite(rest.Index(i))
			}
		}
	}
	fill(reflect.ValueOf(c))
	if !reflect.DeepEqual(c, want) {
		t.Fatal("two lists of a copy share memory")
	}
}

func TestCount(t *testing.T) {
	tell := func(g api.Graph, blocks, code, ifs int) {
		t.Helper()
		if b, c, i := graph.Count(g); b != blocks || c != code || i != ifs {
			t.Errorf("%d, %d, %d, want %d, %d, %d", b, c, i, blocks, code, ifs)
		}
	}
	tell(api.Graph{}, 0, 0, 0)
	tell(whole().Funcs[0], 5, 32, 1)
	tell(whole().Funcs[1], 1, 2, 0)
	tell(api.Graph{Blocks: []api.Block{{}, {End: api.End{Kind: 7}}}}, 2, 0, 0)
	r := rand.New(rand.NewSource(4))
	for range 200 {
		var g api.Graph
		code, ifs := 0, 0
		for range r.Intn(20) {
			b := api.Block{Code: make([]api.Ins, r.Intn(5)), End: api.End{Kind: r.Intn(7)}}
			code += len(b.Code)
			if b.End.Kind == api.EndIf {
				ifs++
			}
			g.Blocks = append(g.Blocks, b)
		}
		tell(g, len(g.Blocks), code, ifs)
	}
}
