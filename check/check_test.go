package check_test

import (
	"fmt"
	"reflect"
	"strings"
	"testing"

	"switchback/api"
	"switchback/check"
	"switchback/lex"
	"switchback/parse"
)

func treeOf(t *testing.T, src string) api.Tree {
	t.Helper()
	l, at, e := lex.Lex(src)
	if e != api.OK {
		t.Fatalf("lex: %d at %d: %s", e, at, src)
	}
	tree, at, e := parse.Parse(l)
	if e != api.OK {
		t.Fatalf("parse: %d at %d: %s", e, at, src)
	}
	return tree
}

func programOf(t *testing.T, src string) api.Program {
	t.Helper()
	p, at, e := check.Check(treeOf(t, src))
	if e != api.OK || at != 0 {
		t.Fatalf("%d at %d: %s", e, at, src)
	}
	return p
}

// refuses checks sources with an @ where the error is to be told (at 0, if there is none); a main is laid behind those that have none.
func refuses(t *testing.T, want api.Errno, sources ...string) {
	t.Helper()
	for _, marked := range sources {
		if !strings.Contains(marked, "main") {
			marked += "int main(){return 0;}"
		}
		place := max(strings.Index(marked, "@"), 0)
		p, at, e := check.Check(treeOf(t, strings.Replace(marked, "@", "", 1)))
		if e != want || at != place {
			t.Errorf("%s: %d at %d, want %d at %d", marked, e, at, want, place)
		}
		if e != api.OK && !reflect.DeepEqual(p, api.Program{}) {
			t.Errorf("%s: a program beside an error", marked)
		}
	}
}

// many repeats a piece with numbers in the place of #.
func many(n int, piece string) string {
	var b strings.Builder
	for i := range n {
		b.WriteString(strings.ReplaceAll(piece, "#", fmt.Sprint(i)))
	}
	return b.String()
}

func TestNamesOfTheFile(t *testing.T) {
	refuses(t, api.ErrCheckTwice,
		"int a;int @a;",
		"int a,@a;",
		"enum{a,@a};",
		"enum{a};int @a;",
		"int a;enum{b,@a};",
		"int a;@int a(){}",
		"int a(){}int @a;",
		"int a(){}@void a(int b){}",
		"int main;@int main(){}",
		"@int getc(){}",
		"int @putc;",
		"enum{@exit};",
	)
	// Ahead of all that is wrong with nodes, and ahead of there being too many.
	refuses(t, api.ErrCheckTwice,
		"int a=b;int @a;",
		"void a;int @a[0];",
		"int f(){return x;}int b;int @b;",
		many(200, "int a#;")+"int @a7;",
		many(60, "int a#(){}")+"@int a7(){}",
	)
	refuses(t, api.ErrCheckMany,
		many(200, "int a#;")+"int @b;",
		"int a"+many(199, ",a#")+",@b;",
		many(60, "int a#(){}")+"@int main(){}",
		many(60, "int a#(){}")+"@char b(){}int a0;",
		many(200, "int a#;")+"int @x,a0;",
		"int a=b;"+many(199, "int a#;")+"int @x;",
	)
	programOf(t, many(200, "int a#;")+many(59, "int f#(){}")+"int main(){return 0;}")
	programOf(t, "enum{"+many(250, "e#,")+"};int main(){return 0;}")
}

func TestScopes(t *testing.T) {
	refuses(t, api.ErrCheckNone,
		"int main(){return @x;}int x;",
		"int main(){return @x;}enum{x};",
		"int main(){{int x;}return @x;}",
		"int main(){for(int x;;);return @x;}",
		"int main(){int x=@x;}",
		"int main(){int x[@x];}",
		"int main(){@x=1;int x;}",
		"int main(){++@x;}",
		"int main(){@x--;}",
		"int main(){@x[1];}",
		"int main(){@x();}",
		"int main(){x(@y);}",
		"int main(){return @l;l:;}",
		"int main(){switch(1)case @x:;}",
		"int main(){if(0){int x;}else @x;}",
		"int main(){while(0){int x;}@x;}",
		"int f(int a){}int main(){return @a;}",
		"int f(int a,int b[]){}int main(){f(@x,x);}",
		"int x=@x;",
		"enum{a=@a};",
		"enum{a=@b,b};",
		"int a[@b];enum{b};",
	)
	p := programOf(t, "int x;int f(int x){{int x=x;for(int x=x;x;)x;{x;}}return x;}int main(){if(1)int x;x;g();int g;{int getc=x;getc;}getc();g;}void g(){}")
	var got []int
	for _, n := range p.Nodes {
		if n.Kind == api.NodeName {
			got = append(got, n.Op*10+n.Num)
		}
	}
	if want := []int{10, 11, 12, 12, 11, 10, 10, 10, 12, 11}; !reflect.DeepEqual(got, want) {
		t.Errorf("variables of names: %v, want %v", got, want)
	}
}

func TestWhatIsNoConstant(t *testing.T) {
	refuses(t, api.ErrCheckConst,
		"int x;int y=@x;",
		"int x=@f();int f(){}",
		"int x=@f;int f(){}",
		"int x=@getc;",
		"int x=@getc();",
		"int x=getc(@getc);",
		"int f(int a[]){}int a[1];int x=f(@a);",
		"int x=(1@,2);",
		"int x=@a[1];",
		"int x=@a[1]+zz;",
		"int x=(2@=3);",
		"int x=-(2@+=3);",
		"int x=@++1;",
		"int x=1@++;",
		"int y;int x=1+@y/0;",
		"enum{e};int x=@++e;",
		"enum{e};int x=(e@=1);",
		"enum{e};int x=@e[1];",
		"enum{e};int x=@e();",
		"int main(){int x;int y[@x];}",
		"int main(){switch(1)case @getc():;}",
	)
	refuses(t, api.ErrCheckConst,
		"int x=1@/0;",
		"int x=1@%0;",
		"int x=1@/0%0;",
		"int x=1/(1@/0);",
		"int x=1@/(1-1);",
		"int x=3u@/(0*5);",
		"int x=0&&1@/0;",
		"int x=1||1@/0;",
		"int x=1?2:1@/0;",
		"int x=0?1@/0:2;",
		"enum{a=1@%0};",
		"int x[1@/0];",
		"int main(){int x[2@/0];}",
		"int main(){switch(1)case 1@/0:;}",
	)
	refuses(t, api.ErrCheckConst,
		"int x[@0];",
		"int x[@1001];",
		"int x[@-1];",
		"int x[1@-1];",
		"int x[500*2@+1];",
		"int x[@0]=1;",
		"int main(){int x[@0];}",
		"int main(){int x[@1001];}",
		"int main(){int a[1000];int b[@0];}",
		"int main(){int a[1000];int b[@1001];}",
	)
	refuses(t, api.ErrCheckNone,
		"int x=@y;",
		"int x=@y/0;",
		"int x=1+@y;",
		"int x=f(@y);int f(){}",
		"int x=a[@y];",
		"int x=(@y=1);",
		"int x=(1,@y);",
		"int x=-@y;",
		"enum{a=@y};",
		"int x[1]=@y;",
	)
}

func TestWhatConstantsAre(t *testing.T) {
	for constant, want := range map[string]uint32{
		"A": 0, "B": 5, "C": 6, "D": 1<<32 - 1, "E": 0, "F": 1<<31 - 1, "G": 1 << 31, "H": 1 << 30, "I": 0, "J": 1,
		"-7/2": 1<<32 - 3, "-7%2": 1<<32 - 1, "-7>>1": 1<<32 - 4, "-7u>>28": 15, "-7/2u": 2147483644, "-7>>1u": 1<<32 - 4, "7u%-2": 7, "-7/-2": 3, "7%-2": 1,
		"-1<0": 1, "-1<0u": 0, "-8>=-7": 0, "-8<=-8": 1, "3>2": 1, "3!=3": 0, "3==3": 1, "-1>0u": 1, "G<A": 1, "2147483648<A": 0, "-2<-1": 1, "-1<=-2": 0, "2>=3": 0,
		"2147483648/-1": 0, "-(1<<31)/-1": 1 << 31, "(1<<31)%-1": 0, "1<<33": 2, "1<<32": 1, "1>>33u": 0, "~0": 1<<32 - 1, "!0": 1, "!7": 0, "+4": 4, "-4": 1<<32 - 4,
		"2&&0": 0, "0&&2": 0, "2&&3": 1, "2||0": 1, "0||2": 1, "0||0": 0, "0?1:2": 2, "3?4:5": 4, "(1?-8:0u)>>1": 1<<31 - 4, "(1u?-8:0)>>1": 1<<32 - 4, "!1u-1<0": 1, "(1u<2)-2<0": 1, "(1u&&2)-2<0": 1, "~0u>>31": 1,
		"6^5": 3, "6|1": 7, "6&3": 2, "7-9": 1<<32 - 2, "65536*65537": 65536, "'a'": 97, "4294967295+1": 0, "(A-1)/2": 0, "(A-1)/2u": 1<<31 - 1,
	} {
		p := programOf(t, "enum{A,B=5,C,D=-1,E,F=2147483647,G,H=0x80000000u>>1,};enum{I,J};int x="+constant+";int main(){return 0;}")
		if got := p.Globals[0].Init; got != want {
			t.Errorf("%s is %d, want %d", constant, got, want)
		}
	}
	p := programOf(t, "int a;char b=300,c=-1,d[3];unsigned e=-1;int f[1000];int main(){int x=3;return 0;}")
	want := []api.Var{{Name: "a", Type: 1}, {Name: "b", Type: 3, Init: 44}, {Name: "c", Type: 3, Init: 255}, {Name: "d", Type: 3, Size: 3}, {Name: "e", Type: 2, Init: 1<<32 - 1}, {Name: "f", Type: 1, Size: 1000}}
	if !reflect.DeepEqual(p.Globals, want) {
		t.Errorf("globals: %v", p.Globals)
	}
	if want := []api.Var{{Name: "x", Type: 1}}; !reflect.DeepEqual(p.Funcs[0].Vars, want) {
		t.Errorf("variables: %v", p.Funcs[0].Vars)
	}
}

func TestVariables(t *testing.T) {
	refuses(t, api.ErrCheckKind,
		"void @x;",
		"void @x=1;",
		"void @x[0];",
		"int @x[1]=2;",
		"int @x[1000]=2;",
		"int f(@void a){}",
		"int f(@void a[]){}",
		"int f(int a,@void a){}",
		"int main(){void @x;}",
		"int main(){int x;void @x;}",
		"int main(){int x=@exit(1);}",
		"int main(){int x=(1@,exit(1));}",
		"int main(){int @x[1]=2;}",
		"int main(){int @x[1]=exit(1);}",
		"void f(){}int main(){int x,y=@f();}",
	)
	refuses(t, api.ErrCheckTwice,
		"int main(){int x;int @x;}",
		"int main(){int x,@x[0];}",
		"int main(){int x,@x=exit(1);}",
		"int main(){int x;int @x[1]=1;}",
		"int main(int a){int @a;}",
		"int main(){for(int x,@x;;);}",
		"int main(){for(int x;;)int @x;}",
		"int main(){{int x;{int x;}int @x;}}",
		"int main(){int x;if(1)int @x;}",
		"int main(){int x;{int x;}l:int @x;}",
		"int main(){"+many(200, "int a#;")+"int @a1;}",
		"int f(int a){char @a[1];}",
		"int f(int a,@int a){}",
		"int f(int a,@char a[]){}",
		"int f("+many(8, "int a#,")+"@int a0){}",
	)
	refuses(t, api.ErrCheckMany,
		"int f("+many(8, "int a#,")+"@int b){}",
		"int main(){"+many(200, "int a#;")+"int @b;}",
		"int main(){"+many(200, "int a#;")+"int @b[0];}",
		"int main(){"+many(200, "int a#;")+"int @b=exit(1);}",
		"int main(){"+many(200, "int a#;")+"{int @a0;}}",
		"int main(){"+many(100, "{int a#;}{int a#;}")+"{int @a0;}}",
		"int f(int p,int q[]){"+many(198, "int a#;")+"int @b;}",
		"int main(){int a[1000];int @b[1];}",
		"int main(){int a[1000],@b[1]=1;}",
		"int main(){{int a[500];}{int a[500];}for(char @b[1];;);}",
		many(10, "int a#[1000];")+"char @b[1];",
		many(9, "int a#[1000];")+"char b[999],@c[2]=1;",
	)
	programOf(t, "int f("+many(7, "int a#,")+"int b[]){"+many(192, "int v#;")+"}int g(){int a[400],b[600];}"+many(10, "int x#[1000];")+"int main(){int a[1000];}")
}

func TestExpressions(t *testing.T) {
	head := "enum{E};int i;unsigned u;int a[2];char c[2];unsigned w[2];void v(){}int f(int x){}int g(int x[],char y[]){}int h(int x,int y){}int main(){int k;"
	for e, list := range map[api.Errno][]string{
		api.ErrCheckNone: {
			"@zz[1];", "@zz(1);", "@zz=2;", "{int f;@zz();}", "1=@zz;", "v()<<@zz;", "if(v())@zz;", "for(@zz;;);", "switch(v())case @zz:;", "if(v())v();else @zz;", "f(f(@zz,1),2);", "f(1,@zz);", "zz(@zz);", "i(@zz);",
		},
		api.ErrCheckKind: {
			"@f;", "@getc;", "@a;", "@main+1;",
			"a[@v()];", "zz[@v()];", "i[@v()];", "@i[1];", "@f[1];", "@E[1];", "@k[1];",
			"@i();", "@a(1);", "@E();", "{int f;@f(1);}", "f(@v());", "f(@a);", "putc(@exit(1));", "f((1@,v()));", "f(@f);", "h(1,@v());", "h(@v(),v());",
			"g(@a);", "g(@f,a,c);", "a(@a);", "g(a,f(@f));", "g(c,f(@f));", "g(@a+1,c);",
			"-@v();", "!@v();", "1+@v();", "@v()+1;", "@v()*v();", "@v()&&1;", "1||@v();", "@v()?1:2;", "1?@v():2;", "1?1:@v();", "1?@v():v();", "1+(1@,v());", "-@exit(0);", "v(),v(),-@v();",
			"i=@v();", "a[0]=@v();", "i+=@v();", "i=@a;",
			"if(@v());", "while(@v());", "do;while(@v());", "for(;@v(););", "switch(@v());", "if(1@,v());", "for(;;@a);", "for(@a;;);",
		},
		api.ErrCheckCall: {
			"@f();", "@f(1,2);", "@getc(1);", "@putc();", "@exit(1,2);", "@f(v(),1);", "@g(1);", "@v(v());",
			"g(@1,c);", "g(@c,c);", "g(a,@a);", "g(@w,c);", "g(@i,c);", "g(@zz,c);", "g(@E,c);", "g(@f,c);", "g(@a[0],c);", "g(@k,zz);", "g(@v(),zz);", "g(a,@zz);", "g(i@+1,c);", "g((1@,1),c);",
		},
		api.ErrCheckLeft: {
			"@1=2;", "@E=2;", "@f=2;", "@a=2;", "@f(1)=2;", "(i@,i)=2;", "(i@=i)=2;", "@++i=2;", "@1=v();", "@1+=2;", "@a=zz;", "@v()=v();", "@E=v();", "i=@E=1;",
			"++@1;", "--@a;", "++@f;", "@E++;", "@f(1)--;", "++i@++;", "i@++ ++;", "--@--i;", "++@v();", "@getc++;", "++@-i;",
		},
	} {
		for _, marked := range list {
			refuses(t, e, head+marked+"}")
		}
	}
	programOf(t, head+"for(v();;v())break;for(1,v();1;v(),1)break;v(),v();1,v();v(),1;g(a,c);g((a),c);h((v(),1),1);i=(v(),1);a[0]=c[1]=k=2;++a[0];(i)=2;(a[1])--;i=u=E;exit(1);putc(getc());}")
}

func TestLeaving(t *testing.T) {
	refuses(t, api.ErrCheckBreak,
		"int main(){@break;}",
		"int main(){@continue;}",
		"int main(){switch(1)@continue;}",
		"int main(){if(1)@break;}",
		"int main(){while(1);@break;}",
		"int main(){while(1);{@continue;}}",
		"int main(){do;while(1);@continue;}",
		"int main(){for(;;);@break;}",
		"int main(){switch(1);@break;}",
		"int main(){switch(1){while(1);@continue;}}",
		"int f(){for(;;);}int main(){@break;}",
		"int main(){goto x;{@break;}}",
	)
	programOf(t, "int main(){while(1)break;while(1)continue;do break;while(1);do continue;while(1);for(;;)break;for(;;)continue;switch(1)break;while(1)switch(1)continue;for(;;){{if(1)break;else continue;}}}")
	refuses(t, api.ErrCheckReturn,
		"int main(){@return;}",
		"void f(){@return 1;}",
		"void f(){@return f();}",
		"void f(){@return exit(1);}",
		"int f(){@return exit(1);}",
		"unsigned f(){@return 1,f(),exit(0);}",
		"char f(){@return;}",
	)
	refuses(t, api.ErrCheckNone, "void f(){return @x;}")
	programOf(t, "void f(){return;}int main(){return f(),1;}char g(){return -1;}unsigned h(){return 1;}void k(){}int l(){}")
}

func TestTargets(t *testing.T) {
	refuses(t, api.ErrCheckLabel,
		"int main(){@goto x;}",
		"int f(){x:;}int main(){@goto x;}",
		"int x;int main(){@goto x;}",
		"int main(){y:@goto x;goto z;}",
		"int main(){{{@goto x;}}goto y;y:;}",
		"int main(){@goto x;goto y;}int f(){return zz;}",
		"int main(){while(1)@goto x;goto y;}",
		"int f(){@goto main;}void main(){}",
	)
	refuses(t, api.ErrCheckNone, "int main(){goto x;@zz;}", "int main(){case @zz:;}", "int main(){case 1:@zz;}", "int main(){x:x:@zz;}")
	refuses(t, api.ErrCheckTwice,
		"int main(){x:;@x:;}",
		"int main(){@x:x:;}",
		"int main(){x:{@x:{x:;}}}",
		"int main(){"+many(300, "l#:;")+"@l7:;}",
		"int main(){switch(1){case 1:;@case 1:;}}",
		"int main(){switch(1){@case 1:case 1:;}}",
		"int main(){switch(1){case -1:;@case 4294967295:;}}",
		"enum{E};int main(){switch(1){case E:;@case 0u:;}}",
		"int main(){switch(1){case 1:;switch(2){case 1:;}@case 1:;}}",
		"int main(){switch(1){case 'a':;{while(1)@case 97:;}}}",
		"int main(){switch(1){"+many(300, "case #:;")+"@case 0:;}}",
	)
	refuses(t, api.ErrCheckCase,
		"int main(){@case 1:;}",
		"int main(){@default:;}",
		"int main(){switch(1);@case 1:;}",
		"int main(){switch(1){}@default:;}",
		"int main(){while(1)@case 1:;}",
		"int f(){switch(1);}int main(){@case 1:;}",
		"int main(){"+many(300, "l#:;")+"@default:;}",
		"int main(){"+many(300, "l#:;")+"@case 1:;}",
	)
	refuses(t, api.ErrCheckDefault,
		"int main(){switch(1){default:;@default:;}}",
		"int main(){switch(1){@default:default:;}}",
		"int main(){switch(1){default:;switch(1)default:;@default:;}}",
		"int main(){switch(1){default:;"+many(299, "l#:;")+"@default:;}}",
	)
	refuses(t, api.ErrCheckMany,
		"int main(){"+many(300, "l#:;")+"@x:;}",
		"int main(){switch(1){"+many(300, "case #:;")+"@default:;}}",
		"int main(){switch(1){default:;"+many(299, "case #:;")+"@case 999:;}}",
		"int main(){"+many(299, "l#:;")+"switch(1){@default:case 1:;}}",
	)
	p := programOf(t, "int f(){"+many(300, "l#:;")+"}int main(){"+many(298, "l#:;")+"switch(1){default:case 1:;}}")
	if p.Funcs[0].Targets != 300 || p.Funcs[1].Targets != 300 {
		t.Errorf("targets: %d, %d", p.Funcs[0].Targets, p.Funcs[1].Targets)
	}
}

func TestMain(t *testing.T) {
	for _, marked := range []string{"", "int f(){}", "enum{e};", "int x;"} {
		if p, at, e := check.Check(treeOf(t, marked)); at != 0 || e != api.ErrCheckMain || !reflect.DeepEqual(p, api.Program{}) {
			t.Errorf("%s: %d at %d", marked, e, at)
		}
	}
	refuses(t, api.ErrCheckMain,
		"int main;",
		"int f(){}enum{main};",
		"int f(){int main;}",
		"int f(){}@unsigned main(){}",
		"@int main(int a){}",
		"@void main(){}",
		"@char main(){}",
		"int f(){}@int main(int a[]){}",
		"@void main(int a){}",
	)
	refuses(t, api.ErrCheckNone, "void main(){@x;}")
	refuses(t, api.ErrCheckLabel, "int f(){@goto x;}")
	if p := programOf(t, "int f(){}int main(void){}int g(){}"); p.Main != 1 || len(p.Funcs) != 3 {
		t.Errorf("main is %d of %d", p.Main, len(p.Funcs))
	}
}

func TestExamples(t *testing.T) {
	p := programOf(t, "enum{A,B=5,C};int x=C;int main(){return x;}")
	if p.Globals[0].Init != 6 {
		t.Errorf("x: %v", p.Globals)
	}
	refuses(t, api.ErrCheckNone, "int main(){return @x;}", "int main(){{int x;}return @x;}")
	refuses(t, api.ErrCheckKind, "int a[2];int main(){return @a;}")
	refuses(t, api.ErrCheckCall, "int f(int a[]){return a[0];}char b[2];int main(){return f(@b);}")
	programOf(t, "int f(int a[]){return a[0];}int b[2];int main(){return f(b);}")
	refuses(t, api.ErrCheckLeft, "int main(){@1=2;}")
	refuses(t, api.ErrCheckMain, "@int main(int a){}")
	refuses(t, api.ErrCheckBreak, "int main(){@break;}")
	refuses(t, api.ErrCheckDefault, "int main(){switch(1){@default:default:;}}")
	refuses(t, api.ErrCheckCase, "int main(){@case 1: return 0;}")
	refuses(t, api.ErrCheckLabel, "int main(){@goto x;}")
	refuses(t, api.ErrCheckTwice, "int main(){@x: x: return 0;}", "int main(){switch(1){@case 1: case 1+0: ;} return 0;}")
}
