package graph_test

import (
	"math"
	"reflect"
	"strconv"
	"strings"
	"testing"

	"switchback/api"
)

// has are the fields of instructions, as the chapter's table tells them.
func has(op int) string {
	switch {
	case op == api.InsConst:
		return "D N"
	case op <= api.InsLow:
		return "D A"
	case op <= api.InsLeU:
		return "D A B"
	}
	return []string{"D F", "F A", "D F A", "F A B", "D F Args Arrs", "D", "A", "A"}[op-api.InsLoad]
}

// endsHave are the fields of ends.
var endsHave = []string{"", "To", "Op A B To Else", "A Cases To", "A N Targets To", "A"}

func within(fields, name string) bool {
	return strings.Contains(" "+fields+" ", " "+name+" ")
}

// TestFieldsThatAreNotThere sets each field that an Op or Kind does not have to what is not zero.
func TestFieldsThatAreNotThere(t *testing.T) {
	for op := api.InsConst; op <= api.InsExit; op++ {
		m := whole()
		left(t, reflect.ValueOf(&m.Funcs[0].Blocks[0].Code[op-1]).Elem(), "Op "+has(op), func() found { return checked(m) }, api.ErrGraphOp)
	}
	for kind, block := range []int{-1, 3, 0, 1, 2, 4} {
		if kind > 0 {
			m := whole()
			left(t, reflect.ValueOf(&m.Funcs[0].Blocks[block].End).Elem(), "Kind "+endsHave[kind], func() found { return checked(m) }, api.ErrGraphEnd)
		}
	}
}

func left(t *testing.T, v reflect.Value, fields string, look func() found, want api.Errno) {
	t.Helper()
	for i := range v.NumField() {
		name, f := v.Type().Field(i).Name, v.Field(i)
		if within(fields, name) {
			continue
		}
		old := reflect.New(f.Type()).Elem()
		old.Set(f)
		switch f.Kind() {
		case reflect.Int:
			f.SetInt(1)
		case reflect.Uint32:
			f.SetUint(1 << 31)
		case reflect.Slice:
			f.Set(reflect.MakeSlice(f.Type(), 1, 1))
		}
		if got := look(); got.e != want || got.fn != 0 {
			t.Errorf("%v with %s: %v", v, name, got)
		}
		if f.Kind() == reflect.Slice {
			// A list without elements is one that is not there.
			f.Set(reflect.MakeSlice(f.Type(), 0, 3))
			if got := look(); got != fine {
				t.Errorf("%v with an empty %s: %v", v, name, got)
			}
		}
		f.Set(old)
	}
}

// TestInstructionFaults sets each field that an Op has to numbers at the edges.
func TestInstructionFaults(t *testing.T) {
	for op := api.InsConst; op <= api.InsExit; op++ {
		for _, name := range strings.Fields(has(op)) {
			for _, n := range []int{math.MinInt, -2, -1, 0, 1, 2, 3, 5, 6, math.MaxInt} {
				m := whole()
				f := reflect.ValueOf(&m.Funcs[0].Blocks[0].Code[op-1]).Elem().FieldByName(name)
				if f.Kind() != reflect.Int {
					continue
				}
				f.SetInt(int64(n))
				want := fine
				if e := fieldFault(op, name, n); e != api.OK {
					want = found{0, 0, e}
				}
				if got := checked(m); got != want {
					t.Errorf("Op %d, %s %d: %v, want %v", op, name, n, got, want)
				}
			}
		}
	}
}

// fieldFault is what there is to say of a field of whole's function 0, which has 6 temps and 2 arrays.
func fieldFault(op int, name string, n int) api.Errno {
	switch {
	case name != "F":
		if (n < 0 || n > 5) && !(op == api.InsCall && n == -1) {
			return api.ErrGraphTemp
		}
	case op == api.InsCall:
		if n != 1 { // the others have no Params
			return api.ErrGraphCall
		}
	case n < 0 || n > 1:
		if op == api.InsLoad || op == api.InsStore {
			return api.ErrGraphOp
		}
		return api.ErrGraphArray
	}
	return api.OK
}

func TestOpsAndCalls(t *testing.T) {
	op := func(n int) func(*api.Module) {
		return func(m *api.Module) { m.Funcs[1].Blocks[0].Code[0].Op = n }
	}
	calls := func(do func(i *api.Ins)) func(*api.Module) {
		return func(m *api.Module) { do(&m.Funcs[0].Blocks[0].Code[api.InsCall-1]) }
	}
	not, no := found{1, 0, api.ErrGraphOp}, found{0, 0, api.ErrGraphCall}
	args := func(l ...int) func(*api.Module) { return calls(func(i *api.Ins) { i.Args = l }) }
	arrs := func(l ...int) func(*api.Module) { return calls(func(i *api.Ins) { i.Arrs = l }) }
	tell(t, []fault{
		{"Op 0", op(0), not}, {"Op 33", op(33), not}, {"Op -1", op(-1), not}, {"Op great", op(math.MaxInt), not}, {"Op least", op(math.MinInt), not},
		{"Args fewer", args(1), no},
		{"Args none", args(), no},
		{"Args more", args(1, 1, 1), no},
		{"Args edges", args(0, 5), fine},
		{"an Arg behind all temps", args(0, 6), no},
		{"an Arg -1", args(-1, 0), no},
		{"Arrs fewer", arrs(1), no},
		{"Arrs more", arrs(1, 1, 1), no},
		{"Arrs edges", arrs(1, 0), fine},
		{"an Arr behind all arrays", arrs(2, 0), no},
		{"an Arr -1", arrs(0, -1), no},
		{"Main called", calls(func(i *api.Ins) { *i = api.Ins{Op: api.InsCall, D: 5} }), fine},
		{"Main called with an array", calls(func(i *api.Ins) { *i = api.Ins{Op: api.InsCall, D: 5, Arrs: []int{0}} }), no},
		{"Args enough of temps, with too few Arrs", calls(func(i *api.Ins) { i.Args, i.Arrs = []int{1, 1, 0}, []int{1} }), no},
	})
}

func TestEndFaults(t *testing.T) {
	end := func(block int, do func(e *api.End)) func(*api.Module) {
		return func(m *api.Module) { do(&m.Funcs[0].Blocks[block].End) }
	}
	edge := func(name string, block int, field func(e *api.End) *int, least, most int) []fault {
		var l []fault
		for _, n := range []int{math.MinInt, least - 1, least, most, most + 1, math.MaxInt} {
			want := fine
			if n < least || n > most {
				want = found{0, block, api.ErrGraphEnd}
			}
			l = append(l, fault{name + " " + strconv.Itoa(n), end(block, func(e *api.End) { *field(e) = n }), want})
		}
		return l
	}
	a := func(e *api.End) *int { return &e.A }
	to := func(e *api.End) *int { return &e.To }
	tell(t, edge("EndIf A", 0, a, 0, 5))
	tell(t, edge("EndIf B", 0, func(e *api.End) *int { return &e.B }, 0, 5))
	tell(t, edge("EndIf Op", 0, func(e *api.End) *int { return &e.Op }, api.InsEq, api.InsLeU))
	tell(t, edge("EndIf To", 0, to, 0, 4))
	tell(t, edge("EndIf Else", 0, func(e *api.End) *int { return &e.Else }, 0, 4))
	tell(t, edge("EndSwitch A", 1, a, 0, 5))
	tell(t, edge("EndSwitch To", 1, to, 0, 4))
	tell(t, edge("a case's To", 1, func(e *api.End) *int { return &e.Cases[1].To }, 0, 4))
	tell(t, edge("EndTable A", 2, a, 0, 5))
	tell(t, edge("EndTable To", 2, to, 0, 4))
	tell(t, edge("a target", 2, func(e *api.End) *int { return &e.Targets[2] }, 0, 4))
	tell(t, edge("EndJump To", 3, to, 0, 4))
	tell(t, edge("EndReturn A", 4, a, -1, 5))
	kind := func(n int) fault {
		return fault{"Kind " + strconv.Itoa(n), end(3, func(e *api.End) { *e = api.End{Kind: n} }), found{0, 3, api.ErrGraphEnd}}
	}
	tell(t, []fault{kind(0), kind(6), kind(-1), kind(math.MaxInt)})
	cases := func(n int) func(*api.Module) {
		return end(1, func(e *api.End) {
			e.Cases = nil
			for i := range n {
				// Neither rising nor falling.
				e.Cases = append(e.Cases, api.Case{N: uint32(i) * 0x9e3779b1, To: i % 5})
			}
		})
	}
	targets := func(n int) func(*api.Module) {
		return end(2, func(e *api.End) { e.Targets = make([]int, n) })
	}
	one, two := found{0, 1, api.ErrGraphEnd}, found{0, 2, api.ErrGraphEnd}
	tell(t, []fault{
		{"no cases", cases(0), fine}, {"400 cases", cases(400), fine}, {"401 cases", cases(401), one},
		{"two cases with one N", end(1, func(e *api.End) { e.Cases[1] = e.Cases[0] }), one},
		{"two cases with one N, far from each other", func(m *api.Module) {
			cases(400)(m)
			m.Funcs[0].Blocks[1].End.Cases[399].N = m.Funcs[0].Blocks[1].End.Cases[0].N
		}, one},
		{"cases with one To", end(1, func(e *api.End) { e.Cases[1].To = e.Cases[0].To }), fine},
		{"no targets", targets(0), two}, {"one target", targets(1), fine}, {"400 targets", targets(400), fine}, {"401 targets", targets(401), two},
	})
}

// TestOrder does two faults at once: the one that stands ahead in the chapter is told.
func TestOrder(t *testing.T) {
	ins := func(fn, block, at int) func(m *api.Module) *api.Ins {
		return func(m *api.Module) *api.Ins { return &m.Funcs[fn].Blocks[block].Code[at] }
	}
	code := func(op int) func(m *api.Module) *api.Ins { return ins(0, 0, op-1) }
	faults := []fault{
		{"module", func(m *api.Module) { m.Arrays[0] = 1001 }, found{-1, -1, api.ErrGraphModule}},
		{"0 temp", func(m *api.Module) { m.Funcs[0].Temps = 8001 }, found{0, -1, api.ErrGraphTemp}},
		{"0 array", func(m *api.Module) { m.Funcs[0].Arrays[1].N = 1001 }, found{0, -1, api.ErrGraphArray}},
		{"0 func", func(m *api.Module) {
			g := &m.Funcs[0]
			g.Blocks = append(g.Blocks, api.Block{Code: make([]api.Ins, 40001)})
		}, found{0, -1, api.ErrGraphFunc}},
		{"1 temp", func(m *api.Module) { m.Funcs[1].Params[0] = -1 }, found{1, -1, api.ErrGraphTemp}},
		{"1 array", func(m *api.Module) { m.Funcs[1].Arrays[1].N = 0 }, found{1, -1, api.ErrGraphArray}},
		{"2 func", func(m *api.Module) { m.Funcs[2].Blocks = nil }, found{2, -1, api.ErrGraphFunc}},
		{"an Op", func(m *api.Module) { code(api.InsMove)(m).Op = 33 }, found{0, 0, api.ErrGraphOp}},
		{"a field", func(m *api.Module) { code(api.InsMul)(m).N = 1 }, found{0, 0, api.ErrGraphOp}},
		{"a temp", func(m *api.Module) { code(api.InsMul)(m).D = 6 }, found{0, 0, api.ErrGraphTemp}},
		{"another field", func(m *api.Module) { code(api.InsLoad)(m).N = 1 }, found{0, 0, api.ErrGraphOp}},
		{"a load's temp", func(m *api.Module) { code(api.InsLoad)(m).D = -1 }, found{0, 0, api.ErrGraphTemp}},
		{"a load's scalar", func(m *api.Module) { code(api.InsLoad)(m).F = 2 }, found{0, 0, api.ErrGraphOp}},
		{"a store's temp", func(m *api.Module) { code(api.InsStore)(m).A = -1 }, found{0, 0, api.ErrGraphTemp}},
		{"a store's scalar", func(m *api.Module) { code(api.InsStore)(m).F = 2 }, found{0, 0, api.ErrGraphOp}},
		{"a get's temp", func(m *api.Module) { code(api.InsGet)(m).A = 6 }, found{0, 0, api.ErrGraphTemp}},
		{"a get's array", func(m *api.Module) { code(api.InsGet)(m).F = 2 }, found{0, 0, api.ErrGraphArray}},
		{"a put's field", func(m *api.Module) { code(api.InsPut)(m).D = 6 }, found{0, 0, api.ErrGraphOp}},
		{"a put's temp", func(m *api.Module) { code(api.InsPut)(m).B = 6 }, found{0, 0, api.ErrGraphTemp}},
		{"a put's array", func(m *api.Module) { code(api.InsPut)(m).F = -1 }, found{0, 0, api.ErrGraphArray}},
		{"a call's temp", func(m *api.Module) { code(api.InsCall)(m).D = -2 }, found{0, 0, api.ErrGraphTemp}},
		{"a call's function", func(m *api.Module) { code(api.InsCall)(m).F = 3 }, found{0, 0, api.ErrGraphCall}},
		{"a getc's temp", func(m *api.Module) { code(api.InsGetc)(m).D = 6 }, found{0, 0, api.ErrGraphTemp}},
		{"an end", func(m *api.Module) { m.Funcs[0].Blocks[0].End.Kind = 9 }, found{0, 0, api.ErrGraphEnd}},
		{"another end", func(m *api.Module) { m.Funcs[0].Blocks[2].End.To = -1 }, found{0, 2, api.ErrGraphEnd}},
		{"another function's temp", func(m *api.Module) { ins(1, 0, 0)(m).D = 7 }, found{1, 0, api.ErrGraphTemp}},
		{"another function's call", func(m *api.Module) { ins(1, 0, 1)(m).Args = []int{0} }, found{1, 0, api.ErrGraphCall}},
		{"another function's end", func(m *api.Module) { m.Funcs[1].Blocks[0].End.A = 2 }, found{1, 0, api.ErrGraphEnd}},
		{"one more function's call", func(m *api.Module) {
			if len(m.Funcs[2].Blocks) > 0 {
				ins(2, 0, 0)(m).Arrs = []int{0}
			}
		}, found{2, 0, api.ErrGraphCall}},
	}
	for i, first := range faults {
		for _, second := range faults[i+1:] {
			m := whole()
			second.do(&m)
			first.do(&m)
			if got := checked(m); got != first.want {
				t.Errorf("%s and %s: %v, want %v", first.name, second.name, got, first.want)
			}
		}
	}
}
