package check_test

import (
	"reflect"
	"strings"
	"testing"

	"switchback/api"
)

// nodeOf is the one node at which a source's @ points, of one of some kinds.
func nodeOf(t *testing.T, marked string, kind int) api.Node {
	t.Helper()
	at := strings.Index(marked, "@")
	var found []api.Node
	for _, n := range programOf(t, strings.Replace(marked, "@", "", 1)).Nodes {
		if n.At == at && n.Kind == kind {
			found = append(found, n)
		}
	}
	if len(found) != 1 {
		t.Fatalf("%s: %v", marked, found)
	}
	n := found[0]
	n.At, n.Kids, n.Kind = 0, nil, 0
	return n
}

const surroundings = "enum{E=7};unsigned u;int i;char c;int a[2];char b[3];unsigned q(){}void v(){}char k(){}int f(int x[],char y){"

// TestNodes is P3.2: what becomes of a tree's nodes, but for what stands in all of them.
func TestNodes(t *testing.T) {
	for _, x := range []struct {
		body string
		kind int
		want api.Node
	}{
		{"@u;", api.NodeName, api.Node{Op: 0, Num: 0, Type: api.TypeUnsigned, Name: "u"}},
		{"@i;", api.NodeName, api.Node{Op: 0, Num: 1, Type: api.TypeInt, Name: "i"}},
		{"@c;", api.NodeName, api.Node{Op: 0, Num: 2, Type: api.TypeInt, Name: "c"}},
		{"@y;", api.NodeName, api.Node{Op: 1, Num: 1, Type: api.TypeInt, Name: "y"}},
		{"int z;@z;", api.NodeName, api.Node{Op: 1, Num: 2, Type: api.TypeInt, Name: "z"}},
		{"{int z;}unsigned z;@z;", api.NodeName, api.Node{Op: 1, Num: 3, Type: api.TypeUnsigned, Name: "z"}},
		{"int w;int u[5];@u[1];", api.NodeIndex, api.Node{Op: 1, Num: 3, Type: api.TypeInt, Name: "u"}},
		{"@a[1];", api.NodeIndex, api.Node{Op: 0, Num: 3, Type: api.TypeInt, Name: "a"}},
		{"@b[1];", api.NodeIndex, api.Node{Op: 0, Num: 4, Type: api.TypeInt, Name: "b"}},
		{"@x[1];", api.NodeIndex, api.Node{Op: 1, Num: 0, Type: api.TypeInt, Name: "x"}},
		{"unsigned z[1];@z[0];", api.NodeIndex, api.Node{Op: 1, Num: 2, Type: api.TypeUnsigned, Name: "z"}},
		{"@E;", api.NodeNum, api.Node{Num: 7, Type: api.TypeInt}},
		{"int z[@E];", api.NodeNum, api.Node{Num: 7, Type: api.TypeInt}},
		{"@8;", api.NodeNum, api.Node{Num: 8, Type: api.TypeInt}},
		{"@8u;", api.NodeNum, api.Node{Num: 8, Type: api.TypeUnsigned}},
		{"f(@a,1);", api.NodeArray, api.Node{Op: 0, Num: 3, Name: "a"}},
		{"f(@x,1);", api.NodeArray, api.Node{Op: 1, Num: 0, Name: "x"}},
		{"@f(a,1);", api.NodeCall, api.Node{Num: 3, Type: api.TypeInt, Name: "f"}},
		{"@q();", api.NodeCall, api.Node{Num: 0, Type: api.TypeUnsigned, Name: "q"}},
		{"@v();", api.NodeCall, api.Node{Num: 1, Type: api.TypeVoid, Name: "v"}},
		{"@k();", api.NodeCall, api.Node{Num: 2, Type: api.TypeInt, Name: "k"}},
		{"@main();", api.NodeCall, api.Node{Num: 4, Type: api.TypeInt, Name: "main"}},
		{"@getc();", api.NodeCall, api.Node{Num: api.CallGetc, Type: api.TypeInt, Name: "getc"}},
		{"@putc(1);", api.NodeCall, api.Node{Num: api.CallPutc, Type: api.TypeInt, Name: "putc"}},
		{"@exit(1);", api.NodeCall, api.Node{Num: api.CallExit, Type: api.TypeVoid, Name: "exit"}},
		{"@-u;", api.NodeUnary, api.Node{Op: api.OpNeg, Type: api.TypeUnsigned}},
		{"@!u;", api.NodeUnary, api.Node{Op: api.OpNil, Type: api.TypeInt}},
		{"@~c;", api.NodeUnary, api.Node{Op: api.OpNot, Type: api.TypeInt}},
		{"i@+u;", api.NodeBinary, api.Node{Op: api.OpAdd, Type: api.TypeUnsigned}},
		{"u@/i;", api.NodeBinary, api.Node{Op: api.OpDiv, Type: api.TypeUnsigned}},
		{"i@*c;", api.NodeBinary, api.Node{Op: api.OpMul, Type: api.TypeInt}},
		{"u@<u;", api.NodeBinary, api.Node{Op: api.OpLt, Type: api.TypeInt}},
		{"u@==1;", api.NodeBinary, api.Node{Op: api.OpEq, Type: api.TypeInt}},
		{"u@>=1u;", api.NodeBinary, api.Node{Op: api.OpGe, Type: api.TypeInt}},
		{"i@<<u;", api.NodeBinary, api.Node{Op: api.OpShl, Type: api.TypeInt}},
		{"u@>>i;", api.NodeBinary, api.Node{Op: api.OpShr, Type: api.TypeUnsigned}},
		{"u@&&u;", api.NodeAnd, api.Node{Type: api.TypeInt}},
		{"u@||u;", api.NodeOr, api.Node{Type: api.TypeInt}},
		{"u@?i:c;", api.NodeCond, api.Node{Type: api.TypeInt}},
		{"i@?u:c;", api.NodeCond, api.Node{Type: api.TypeUnsigned}},
		{"i@?c:u;", api.NodeCond, api.Node{Type: api.TypeUnsigned}},
		{"u@=i;", api.NodeAssign, api.Node{Type: api.TypeUnsigned}},
		{"i@=u;", api.NodeAssign, api.Node{Type: api.TypeInt}},
		{"c@+=u;", api.NodeAssign, api.Node{Op: api.OpAdd, Type: api.TypeInt}},
		{"@++u;", api.NodePre, api.Node{Op: api.OpAdd, Type: api.TypeUnsigned}},
		{"@--c;", api.NodePre, api.Node{Op: api.OpSub, Type: api.TypeInt}},
		{"u@--;", api.NodePost, api.Node{Op: api.OpSub, Type: api.TypeUnsigned}},
		{"u@,i;", api.NodeComma, api.Node{Type: api.TypeInt}},
		{"i@,u;", api.NodeComma, api.Node{Type: api.TypeUnsigned}},
		{"i@,v();", api.NodeComma, api.Node{Type: api.TypeVoid}},
		{"case_:;@l:;", api.NodeLabel, api.Node{Own: 1, Name: "l"}},
		{"@l:m:;", api.NodeLabel, api.Node{Own: 1, Name: "l"}},
		{"switch(1){case 5:;@case -1:;}", api.NodeCase, api.Node{Own: 1, Num: 1<<32 - 1}},
		{"switch(1){case 5:;l:@default:;}", api.NodeDefault, api.Node{Own: 1}},
		{"@goto m;l:;m:;", api.NodeGoto, api.Node{Own: 1, Name: "m"}},
		{"@goto l;l:m:;", api.NodeGoto, api.Node{Own: 1, Name: "l"}},
		{"@switch(1);", api.NodeSwitch, api.Node{Num: 0}},
		{"switch(1);@switch(1);", api.NodeSwitch, api.Node{Num: 1}},
		{"@switch(1)switch(1);", api.NodeSwitch, api.Node{Num: 1}},
		{"int @z;", api.NodeVar, api.Node{Num: 2, Type: api.TypeInt, Name: "z"}},
		{"int w;char @z[2];", api.NodeVar, api.Node{Num: 3, Op: 1, Type: api.TypeChar, Name: "z"}},
		{"@if(1);", api.NodeIf, api.Node{}},
		{"@return 1;", api.NodeReturn, api.Node{}},
		{"switch(1)case 3@+1:;", api.NodeBinary, api.Node{Op: api.OpAdd, Type: api.TypeInt}},
		{"switch(1)case 3@+1u:;", api.NodeBinary, api.Node{Op: api.OpAdd, Type: api.TypeUnsigned}},
	} {
		if n := nodeOf(t, surroundings+x.body+"}int main(){}", x.kind); !reflect.DeepEqual(n, x.want) {
			t.Errorf("%s: %+v, want %+v", x.body, n, x.want)
		}
	}
	for marked, want := range map[string]api.Node{
		"int x;char @y=3;":        {Num: 1, Type: api.TypeChar, Name: "y"},
		"int x,y;int @z[4];":      {Num: 2, Op: 1, Type: api.TypeInt, Name: "z"},
		"void f(){int a;}int @z;": {Num: 0, Type: api.TypeInt, Name: "z"},
	} {
		if n := nodeOf(t, marked+"int main(){}", api.NodeVar); !reflect.DeepEqual(n, want) {
			t.Errorf("%s: %+v, want %+v", marked, n, want)
		}
	}
}

func TestFunctions(t *testing.T) {
	p := programOf(t, "int g;char f(char a[],unsigned b){int c;{char c[5];for(unsigned d=9;;)break;}}int main(){switch(1){l:case 2:switch(3){case -4:;default:;}case 5:;}switch(6)default:;}")
	if len(p.Funcs) != 2 || p.Main != 1 {
		t.Fatalf("%+v", p.Funcs)
	}
	f, main := p.Funcs[0], p.Funcs[1]
	vars := []api.Var{{Name: "a", Type: api.TypeChar, Size: -1}, {Name: "b", Type: api.TypeUnsigned}, {Name: "c", Type: api.TypeInt}, {Name: "c", Type: api.TypeChar, Size: 5}, {Name: "d", Type: api.TypeUnsigned}}
	if f.Name != "f" || f.Type != api.TypeChar || f.Params != 2 || !reflect.DeepEqual(f.Vars, vars) || f.Targets != 0 || len(f.Switches) != 0 {
		t.Errorf("%+v", f)
	}
	switches := []api.Switch{
		{Cases: []api.Choice{{Num: 1<<32 - 4, Target: 0}}, Default: 1},
		{Cases: []api.Choice{{Num: 2, Target: 2}, {Num: 5, Target: 4}}, Default: -1},
		{Default: 5},
	}
	if main.Name != "main" || main.Type != api.TypeInt || main.Params != 0 || len(main.Vars) != 0 || main.Targets != 6 || !reflect.DeepEqual(main.Switches, switches) {
		t.Errorf("%+v", main)
	}
	for _, fn := range p.Funcs {
		if n := p.Nodes[fn.Body]; n.Kind != api.NodeBlock || p.Nodes[fn.Body+1].Kind != api.NodeFunc {
			t.Errorf("the block of %s: %+v", fn.Name, n)
		}
	}
}

// TestPlaces is the rest of P3.2: nodes stay where they are, with At and Kids as they were.
func TestPlaces(t *testing.T) {
	src := "enum{E};int a[E+1];int f(int x[]){return x[E];}int main(){switch(f(a)){case E:l:;}goto l;}"
	tree, p := treeOf(t, src), programOf(t, src)
	for i, n := range tree.Nodes {
		m := p.Nodes[i]
		same := m.Kind == n.Kind || n.Kind == api.NodeName && (m.Kind == api.NodeNum || m.Kind == api.NodeArray)
		if !same || m.At != n.At || len(m.Kids) != len(n.Kids) || len(n.Kids) > 0 && !reflect.DeepEqual(m.Kids, n.Kids) {
			t.Errorf("%d: %+v of %+v", i, m, n)
		}
	}
}
