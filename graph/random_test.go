package graph_test

import (
	"math"
	"math/rand"
	"reflect"
	"testing"

	"switchback/api"
	"switchback/graph"
	"switchback/sample"
)

// TestSpoiltModules changes modules that may be here and there, and holds Check against the second reading.
func TestSpoiltModules(t *testing.T) {
	r := rand.New(rand.NewSource(3))
	seen := map[api.Errno]int{}
	for i := range uint64(30000) {
		m := sample.Module(i % 4000)
		for range r.Intn(4) {
			spoil(r, &m)
		}
		ahead := graph.Copy(m)
		got, want := checked(m), readAgain(m)
		if got != want {
			t.Fatalf("%d: %v, want %v\n%+v", i, got, want, m)
		}
		if !reflect.DeepEqual(ahead, m) {
			t.Fatal("Check changes what is handed in")
		}
		seen[got.e]++
	}
	t.Log(seen)
	for _, e := range []api.Errno{api.OK, api.ErrGraphFunc, api.ErrGraphTemp, api.ErrGraphArray, api.ErrGraphOp, api.ErrGraphCall, api.ErrGraphEnd, api.ErrGraphModule} {
		if seen[e] == 0 {
			t.Errorf("%d never came about", e)
		}
	}
}

// spoil changes one thing of a module: a number, or a list.
func spoil(r *rand.Rand, m *api.Module) {
	v := reflect.ValueOf(m).Elem()
	for {
		switch v.Kind() {
		case reflect.Struct:
			v = part(r, v)
		case reflect.Slice:
			if v.Len() == 0 || r.Intn(8) == 0 {
				resize(r, v)
				return
			}
			v = v.Index(r.Intn(v.Len()))
		case reflect.Uint32:
			v.SetUint(uint64(r.Intn(4)))
			return
		case reflect.Int:
			v.SetInt(int64(near(r, int(v.Int()))))
			return
		}
	}
}

// part is a field, mostly the one in which most stands.
func part(r *rand.Rand, v reflect.Value) reflect.Value {
	for _, name := range []string{"Funcs", "Blocks"} {
		if f := v.FieldByName(name); f.IsValid() && r.Intn(10) > 0 {
			return f
		}
	}
	return v.Field(r.Intn(v.NumField()))
}

func near(r *rand.Rand, n int) int {
	edges := []int{math.MinInt, -2, -1, 0, 1, 2, 3, 4, 5, 6, 8, 9, 19, 24, 25, 32, 33, 1000, 1001, 8000, 8001, math.MaxInt, n - 1, n + 1}
	return edges[r.Intn(len(edges))]
}

// resize gives a list one more element, one that stands there twice, or takes one out.
func resize(r *rand.Rand, v reflect.Value) {
	l := reflect.MakeSlice(v.Type(), 0, v.Len()+1)
	l = reflect.AppendSlice(l, v)
	switch {
	case v.Len() == 0 || r.Intn(4) == 0:
		l = reflect.Append(l, reflect.New(v.Type().Elem()).Elem())
	case r.Intn(2) == 0:
		l = reflect.Append(l, v.Index(r.Intn(v.Len())))
	default:
		i := r.Intn(v.Len())
		l = reflect.AppendSlice(l.Slice(0, i), v.Slice(i+1, v.Len()))
	}
	v.Set(l)
}
