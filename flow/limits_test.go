package flow_test

import (
	"reflect"
	"strconv"
	"strings"
	"testing"

	"switchback/api"
	"switchback/flow"
	"switchback/graph"
)

// TestGreatSources has sources of about as many tokens as there may be: the graphs stay within their limits.
func TestGreatSources(t *testing.T) {
	t.Parallel()
	for _, src := range []string{
		"int main(){return " + strings.Repeat("!", 3989) + "1;}",
		"int main(){return " + strings.Repeat("- ", 3989) + "1;}",
		"char c;int main(){return " + strings.Repeat("c+=", 1990) + "1;}",
		"char c;int main(){" + strings.Repeat("++c,", 1320) + "1;}",
		"char c;int main(){" + strings.Repeat("c++;", 1320) + "}",
		"int g;int main(){return g" + strings.Repeat("&&g", 1990) + ";}",
		"int g;int main(){" + strings.Repeat("g||g,", 990) + "g;}",
		"int g;int main(){return " + strings.Repeat("g?g:", 990) + "g;}",
		"int main(){" + strings.Repeat("for(;;)", 790) + ";}",
		"int main(){" + strings.Repeat("if(1);else ", 660) + ";}",
		"int main(){int x;return " + strings.Repeat("x+(", 990) + "x++" + strings.Repeat(")", 990) + ";}",
		"int a[1];int main(){return " + strings.Repeat("a[", 1320) + "0" + strings.Repeat("]", 1320) + ";}",
		"int f(int x){return x;}int main(){return " + strings.Repeat("f(", 1300) + "0" + strings.Repeat(")", 1300) + ";}",
		"int main(){" + strings.Repeat("{", 1990) + strings.Repeat("}", 1990) + "}",
		"int main(){int x;" + strings.Repeat("x", 1) + strings.Repeat(",x", 1980) + ";}",
	} {
		holds(t, src, "")
	}
}

func numbered(n int, pieces func(i string) string) string {
	s := ""
	for i := range n {
		s += pieces(strconv.Itoa(i))
	}
	return s
}

// TestManyOfAKind has as many variables, targets, functions as there may be.
func TestManyOfAKind(t *testing.T) {
	for _, src := range []string{
		numbered(200, func(i string) string { return "int g" + i + "[2];" }) + "int main(){" + numbered(200, func(i string) string { return "int l" + i + "[2];" }) + numbered(200, func(i string) string { return "g" + i + "[1]=1;" }) + "l7[1]=4;return g199[1]+l7[1];}",
		numbered(200, func(i string) string { return "char g" + i + "=" + i + ";" }) + "int main(){" + numbered(200, func(i string) string { return "char l" + i + "=g" + i + ";" }) + "return l199+l0+g7;}",
		"int main(){int n=-1,s;for(;n<301;n++)switch(n){" + numbered(299, func(i string) string { return "case " + i + ":s+=" + i + ";" }) + "default:s++;}return s;}",
		"int main(){int n;" + numbered(300, func(i string) string { return "l" + i + ":if(n++==" + i + ")goto l" + i + ";" }) + "return n;}",
		"int g;" + numbered(59, func(i string) string { return "int f" + i + "(){return g++;}" }) + "int main(){return f0()+f58();}",
		"int f(int a,int b,int c,int d,int e,int f,int g,int h){int x[992];x[0]=a;x[991]=h;return x[0]+b+x[990];}int a[1000];int main(){return f(1,2,3,4,5,6,7,8)+a[999];}",
	} {
		holds(t, src, "")
	}
}

const everything = "int g=3;char h;int a[4];int f(int x,int v[],char c){int w[2];v[0]=w[1]=x+c;return v[0];}int main(){int i;switch(i){case 2:goto l;case 0:default:i=5;l:;}while(i-->0)h+=f(i,a,g);return h;}"

func TestNothingIsChanged(t *testing.T) {
	p, q := programOf(t, everything), programOf(t, everything)
	first, second := lowered(t, p), lowered(t, p)
	if !reflect.DeepEqual(p, q) || !reflect.DeepEqual(first, second) {
		t.Errorf("%+v\n%+v", first, second)
	}
}

// TestMemoryOfItsOwn writes into the spare room of each list of an answer: neither another list nor the program has a part in it.
func TestMemoryOfItsOwn(t *testing.T) {
	p, q := programOf(t, everything), programOf(t, everything)
	m, _ := flow.Lower(p)
	want := graph.Copy(m)
	fill(m.Globals)
	fill(m.Arrays)
	fill(m.Funcs)
	for _, g := range m.Funcs {
		fill(g.Params)
		fill(g.Arrays)
		fill(g.Blocks)
		for _, b := range g.Blocks {
			fill(b.Code)
			fill(b.End.Cases)
			for _, i := range b.Code {
				fill(i.Args)
				fill(i.Arrs)
			}
		}
	}
	if !reflect.DeepEqual(m, want) {
		t.Error("two lists share memory")
	}
	for i := range m.Funcs {
		m.Funcs[i] = api.Graph{}
	}
	clear(m.Globals)
	clear(m.Arrays)
	if !reflect.DeepEqual(p, q) {
		t.Error("the module shares memory with the program")
	}
}

// fill writes over a list's spare room.
func fill[T any](l []T) {
	spare := l[len(l):cap(l)]
	for i := range spare {
		reflect.ValueOf(&spare[i]).Elem().Set(noise(reflect.TypeFor[T]()))
	}
}

// noise is a value that is not zero, where that is easy.
func noise(of reflect.Type) reflect.Value {
	v := reflect.New(of).Elem()
	switch of.Kind() {
	case reflect.Int:
		v.SetInt(-7)
	case reflect.Uint32:
		v.SetUint(7)
	case reflect.Struct:
		v.Field(0).Set(noise(of.Field(0).Type))
	}
	return v
}
