package alloc_test

import (
	"fmt"
	"reflect"
	"testing"

	"switchback/alloc"
	"switchback/api"
	"switchback/graph"
	"switchback/run"
	"switchback/sample"
)

// short is how a failure tells of something: great graphs not whole.
func short(v any) string {
	return fmt.Sprintf("%.3000s", fmt.Sprintf("%+v", v))
}

// allocated gives temps their locations, and checks all that is promised of every module, but for which temps meet, and for runs.
func allocated(t *testing.T, m api.Module) api.Module {
	t.Helper()
	ahead := graph.Copy(m)
	r, e := alloc.Alloc(m)
	if e != api.OK {
		t.Fatalf("%d: %s", e, short(m))
	}
	if !reflect.DeepEqual(m, ahead) {
		t.Fatal("the module is changed")
	}
	if s := sample.UnlikeHead(m, r); s != "" {
		t.Fatalf("%s\n%s\n%s", s, short(m), short(r))
	}
	if sample.Shared(ahead, r) || sample.Shared(m, r) {
		t.Fatalf("shared memory: %s", short(m))
	}
	again, e := alloc.Alloc(r)
	if e != api.OK {
		t.Fatal(e)
	}
	for i, g := range r.Funcs {
		locations(t, m.Funcs[i], g)
		if again.Funcs[i].Temps > g.Temps {
			t.Fatalf("the function %d: %d locations, once more %d: %s", i, g.Temps, again.Funcs[i].Temps, short(m))
		}
	}
	return r
}

// locations tells the location of each temp of a graph that is seen, by what came in its place, and checks that there is nothing else that changed (A1).
func locations(t *testing.T, g, r api.Graph) map[int]int {
	t.Helper()
	var ahead, came []int
	one := func(g api.Graph, l *[]int) api.Graph {
		g = graph.Copy(api.Module{Funcs: []api.Graph{g}}).Funcs[0]
		sample.Rename(&g, func(temp int) int {
			*l = append(*l, temp)
			return 0
		})
		g.Temps = 0
		return g
	}
	if !reflect.DeepEqual(one(g, &ahead), one(r, &came)) || len(ahead) != len(came) {
		t.Fatalf("not only temps are others:\n%s\n%s", short(g), short(r))
	}
	where, used := map[int]int{}, map[int]int{}
	for i, temp := range ahead {
		if location, is := where[temp]; is && location != came[i] {
			t.Fatalf("%d is at %d and at %d:\n%s\n%s", temp, location, came[i], short(g), short(r))
		}
		where[temp] = came[i]
		used[came[i]]++
	}
	for location := range r.Temps {
		if used[location] == 0 {
			t.Fatalf("no temp is at %d:\n%s\n%s", location, short(g), short(r))
		}
	}
	if len(used) != r.Temps {
		t.Fatalf("%d temps, %d locations:\n%s\n%s", r.Temps, len(used), short(g), short(r))
	}
	return where
}

// meetings reads the chapter: which temps of a graph meet.
func meetings(g api.Graph) [][]bool {
	needed, meets := make([][][]bool, g.Temps), make([][]bool, g.Temps)
	for temp := range g.Temps {
		needed[temp], meets[temp] = sample.Needed(g, temp), make([]bool, g.Temps)
	}
	meet := func(a, b int) {
		if a != b {
			meets[a][b], meets[b][a] = true, true
		}
	}
	for b := range g.Blocks {
		for k := range g.Blocks[b].Code {
			if _, sets := sample.Temps(&g.Blocks[b].Code[k]); sets != nil {
				for temp := range g.Temps {
					if needed[temp][b][k+1] {
						meet(*sets, temp)
					}
				}
			}
		}
	}
	together := func(temp int) bool {
		for _, p := range g.Params {
			if p == temp {
				return true
			}
		}
		return needed[temp][0][0]
	}
	for a := range g.Temps {
		for b := range a {
			if together(a) && together(b) {
				meet(a, b)
			}
		}
	}
	return meets
}

// apart checks that temps that meet have unlike locations (A2), and that there are not too many (A3).
func apart(t *testing.T, g, r api.Graph) {
	t.Helper()
	where, most := locations(t, g, r), 0
	for a, met := range meetings(g) {
		many := 0
		for b, is := range met {
			if !is {
				continue
			}
			many++
			if where[a] == where[b] {
				t.Fatalf("%d and %d meet, both are at %d:\n%s\n%s", a, b, where[a], short(g), short(r))
			}
		}
		most = max(most, many)
	}
	if len(where) == 0 {
		most = -1
	}
	if r.Temps > most+1 {
		t.Fatalf("%d locations, and a temp meets at most %d:\n%s\n%s", r.Temps, most, short(g), short(r))
	}
}

// means checks a module's locations, and that runs are the same, however they end.
func means(t *testing.T, m api.Module, fuels []int, inputs ...string) api.Module {
	t.Helper()
	r := allocated(t, m)
	for i := range r.Funcs {
		apart(t, m.Funcs[i], r.Funcs[i])
	}
	runs(t, m, r, fuels, inputs...)
	return r
}

// runs checks that runs of two modules have the same outcome, Steps too (P14.1).
func runs(t *testing.T, m, r api.Module, fuels []int, inputs ...string) {
	t.Helper()
	for _, input := range inputs {
		for _, fuel := range fuels {
			a, e := run.Run(m, input, fuel)
			b, f := run.Run(r, input, fuel)
			if e != api.OK || f != api.OK || a != b {
				t.Fatalf("%q, %d: %+v, ahead %+v\n%s\n%s", input, fuel, b, a, short(m), short(r))
			}
		}
	}
}

func to(b int) api.End { return api.End{Kind: api.EndJump, To: b} }

func back(a int) api.End { return api.End{Kind: api.EndReturn, A: a} }

// either goes to one block, if a temp is less than another one, else to another block.
func either(a, b, yes, no int) api.End {
	return api.End{Kind: api.EndIf, Op: api.InsLtU, A: a, B: b, To: yes, Else: no}
}

func choose(a, other int, tos ...int) api.End {
	e := api.End{Kind: api.EndSwitch, A: a, To: other}
	for n, b := range tos {
		e.Cases = append(e.Cases, api.Case{N: uint32(n), To: b})
	}
	return e
}

func table(a, other int, tos ...int) api.End {
	return api.End{Kind: api.EndTable, A: a, To: other, Targets: tos}
}

func block(end api.End, code ...api.Ins) api.Block {
	return api.Block{Code: code, End: end}
}

func set(d, n int) api.Ins { return api.Ins{Op: api.InsConst, D: d, N: uint32(n)} }

func getc(d int) api.Ins { return api.Ins{Op: api.InsGetc, D: d} }

func putc(a int) api.Ins { return api.Ins{Op: api.InsPutc, A: a} }

func add(d, a, b int) api.Ins { return api.Ins{Op: api.InsAdd, D: d, A: a, B: b} }

func call(d int, args ...int) api.Ins { return api.Ins{Op: api.InsCall, D: d, F: 1, Args: args} }

// of is a graph of so many temps.
func of(temps int, blocks ...api.Block) api.Graph {
	return api.Graph{Temps: temps, Blocks: blocks}
}

// with is a graph with Params.
func with(g api.Graph, params ...int) api.Graph {
	g.Params = params
	return g
}
