package flow_test

import (
	"slices"
	"testing"

	"switchback/api"
	"switchback/flow"
	"switchback/graph"
	"switchback/model"
	"switchback/sample"
)

func programOf(t *testing.T, src string) api.Program {
	t.Helper()
	p, wrong := sample.Read(src)
	if wrong != "" {
		t.Fatalf("%s: %s", wrong, src)
	}
	return p
}

// lowered is a program's module, which must be one that may be.
func lowered(t *testing.T, p api.Program) api.Module {
	t.Helper()
	m, e := flow.Lower(p)
	if e != api.OK {
		t.Fatalf("Lower: %d", e)
	}
	if f, b, e := graph.Check(m); e != api.OK {
		t.Fatalf("Check: %d at %d, %d: %+v", e, f, b, m)
	}
	return m
}

// same holds a run of the module against one of the program: P7.2, both ways. It tells how the program's ends.
func same(t *testing.T, p api.Program, m api.Module, input string, fuel int) api.Outcome {
	t.Helper()
	if s := sample.UnlikeLowered(p, m, input, fuel); s != "" {
		t.Errorf("%q: %s", input, s)
	}
	o, _ := model.Run(p, input, fuel)
	return o
}

// shaped holds a module's shape against the program's: P7.1 and P7.3.
func shaped(t *testing.T, p api.Program, m api.Module) {
	t.Helper()
	var globals []uint32
	var arrays []int
	for _, v := range p.Globals {
		if v.Size == 0 {
			globals = append(globals, v.Init)
		} else {
			arrays = append(arrays, v.Size)
		}
	}
	if !slices.Equal(m.Globals, globals) || !slices.Equal(m.Arrays, arrays) || m.Main != p.Main || len(m.Funcs) != len(p.Funcs) {
		t.Fatalf("Globals %v, Arrays %v, Main %d, %d functions", m.Globals, m.Arrays, m.Main, len(m.Funcs))
	}
	for i, g := range m.Funcs {
		if want, got := headOf(p.Funcs[i]), headOfGraph(g); got != want {
			t.Errorf("the function %d has Params and ArrayParams %v, want %v", i, got, want)
		}
		switchesOf(t, p.Funcs[i], g)
	}
}

// headOf tells how many scalar parameters a function has, and how many with brackets.
func headOf(fn api.Func) (n [2]int) {
	for _, v := range fn.Vars[:fn.Params] {
		n[-v.Size]++
	}
	return n
}

func headOfGraph(g api.Graph) [2]int {
	arrays := 0
	for _, a := range g.Arrays {
		if a.Kind == api.ArrayParam {
			arrays++
		}
	}
	return [2]int{len(g.Params), arrays}
}

// switchesOf looks for each EndSwitch in the function's switches.
func switchesOf(t *testing.T, fn api.Func, g api.Graph) {
	t.Helper()
	n := 0
	for _, b := range g.Blocks {
		switch b.End.Kind {
		case api.EndTable:
			t.Errorf("an EndTable %+v", b.End)
		case api.EndSwitch:
			n++
			if !slices.ContainsFunc(fn.Switches, func(s api.Switch) bool { return sameValues(s.Cases, b.End.Cases) }) {
				t.Errorf("%+v is none of %+v", b.End, fn.Switches)
			}
		}
	}
	if n > len(fn.Switches) {
		t.Errorf("%d EndSwitches of %d switches", n, len(fn.Switches))
	}
}

func sameValues(l []api.Choice, cases []api.Case) bool {
	return slices.EqualFunc(l, cases, func(a api.Choice, b api.Case) bool { return a.Num == b.N })
}

// holds checks all promises for a source, with some inputs. It tells how the run with the first one ends.
func holds(t *testing.T, src string, inputs ...string) api.Outcome {
	t.Helper()
	p := programOf(t, src)
	m := lowered(t, p)
	shaped(t, p, m)
	outcomes := make([]api.Outcome, len(inputs))
	for i, input := range inputs {
		outcomes[i] = same(t, p, m, input, 100000)
	}
	if t.Failed() {
		t.Fatalf("%.2000s", src)
	}
	return outcomes[0]
}

// ends checks that a source's run ends, and how.
func ends(t *testing.T, stop int, code uint32, output, src string) {
	t.Helper()
	if o := holds(t, src, "input", "", "\x00\xff"); o.Stop != stop || o.Code != code || o.Output != output {
		t.Errorf("%s: %+v", src, o)
	}
}

func TestExample(t *testing.T) {
	m := lowered(t, programOf(t, "int g=3;int a[2];int main(){return g;}"))
	if !slices.Equal(m.Globals, []uint32{3}) || !slices.Equal(m.Arrays, []int{2}) || len(m.Funcs) != 1 || len(m.Funcs[0].Params) != 0 || m.Main != 0 {
		t.Errorf("%+v", m)
	}
}

func TestExamplesOfTheWhole(t *testing.T) {
	for _, x := range sample.Examples() {
		ends(t, x.Stop, x.Code, x.Output, x.Source)
	}
}

func TestShapes(t *testing.T) {
	for _, src := range []string{
		"int main(){}",
		"int a[1];int g=4;int b[1000];char c=300;unsigned u=-1;int d[7];int main(){return d[0]+b[999]+a[0]+c+u+g;}",
		"int f(int a,char b[],int c,int d[]){return b[0]+d[1]+a+c;}int x[2];char y[1];int main(){return f(1,y,2,x);}int z;void g(int q[]){z=q[0];}",
		"int f(char a,char b,char c,char d,char e,char f,char g,char h){return a+b+c+d+e+f+g+h;}int main(){return f(256,257,258,-1,-2,5,6,7);}",
		"int f(int a[],int b[],int c[],int d[],int e[],int f[],int g[],int h[]){return a[0]-b[0]+c[0]-d[0]+e[0]-f[0]+g[0]-h[0];}int main(){int i[1],j[1];i[0]=5;j[0]=9;return f(i,j,j,j,i,j,j,j);}",
		"int f(char a[],int b){return b;}int g(int a,char b[],int c[],int d){return a*d;}char x[1];int y[1];int main(){return f(x,300)+g(301,x,y,302);}",
		"void h(){}int main(){h();return 3;}int f(){return main();}",
		"int main(){switch(3){}switch(4);switch(5)case 5:switch(6){default:case 1:;}return 1;switch(7){case 9:case 8:case -1:case 3:;}}",
		"int main(){switch(getc()){case 105:return 1;case -1:return 2;case 0:break;case 7:case 6:case 5:default:return 3;}return 4;}",
	} {
		holds(t, src, "input", "", "\x00")
	}
}

func TestWhichIsMain(t *testing.T) {
	for i, src := range []string{"int main(){return 5;}int f(){return 6;}", "int f(){return 6;}int main(){return 5;}"} {
		if m := lowered(t, programOf(t, src)); m.Main != i {
			t.Errorf("%s: Main %d", src, m.Main)
		}
		ends(t, api.StopExit, 5, "", src)
	}
}
