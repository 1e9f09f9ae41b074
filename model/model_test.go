package model_test

import (
	"reflect"
	"strings"
	"testing"

	"switchback/api"
	"switchback/model"
	"switchback/sample"
)

func programOf(t *testing.T, src string) api.Program {
	t.Helper()
	p, wrong := sample.Read(src)
	if wrong != "" {
		t.Fatalf("%s: %s", wrong, src)
	}
	return p
}

const plenty = 1000000

func run(t *testing.T, src, input string, fuel int) api.Outcome {
	t.Helper()
	o, e := model.Run(programOf(t, src), input, fuel)
	if e != api.OK {
		t.Fatalf("%d: %s", e, src)
	}
	return o
}

// gives checks what a main's return gives.
func gives(t *testing.T, want uint32, src string) {
	t.Helper()
	if o := run(t, src, "", plenty); o.Stop != api.StopExit || o.Code != want {
		t.Errorf("%s: %+v, want %d", src, o, want)
	}
}

// says checks what comes out of a program that ends with the code 0.
func says(t *testing.T, want, src string) {
	t.Helper()
	if o := run(t, src, "input", plenty); o.Stop != api.StopExit || o.Code != 0 || o.Output != want {
		t.Errorf("%s: %+v, want %q", src, o, want)
	}
}

// traps checks a trap, and what came out ahead of it.
func traps(t *testing.T, trap uint32, output, src string) {
	t.Helper()
	if o := run(t, src, "", plenty); o.Stop != api.StopTrap || o.Code != trap || o.Output != output {
		t.Errorf("%s: %+v, want the trap %d behind %q", src, o, trap, output)
	}
}

func TestExamples(t *testing.T) {
	gives(t, 7, "int main(){return 7;}")
	says(t, "bcdabcdabcd", "int main(){int n=3; switch(n){case 0: do{ putc('a'); case 3: putc('b'); case 2: putc('c'); case 1: putc('d'); }while(--n>0);} return n;}")
	if o := run(t, "int main(){int i=0; goto in; while(i<3){ putc('x'); in: putc('y'); ++i; } return i;}", "", plenty); o.Output != "yxyxy" || o.Code != 3 || o.Stop != api.StopExit {
		t.Errorf("%+v", o)
	}
	says(t, "input", "int main(){int c; while((c=getc())!=-1) putc(c); return 0;}")
	traps(t, api.TrapIndex, "", "int a[3]; int main(){a[3]=1; return 0;}")
	traps(t, api.TrapDiv, "", "int main(){return 1/0;}")
	traps(t, api.TrapDepth, "", "int f(){return f();} int main(){return f();}")
	for fuel := range 200 {
		if o := run(t, "int main(){for(;;);}", "", fuel); o != (api.Outcome{Stop: api.StopFuel, Steps: fuel}) {
			t.Errorf("%d: %+v", fuel, o)
		}
	}
	gives(t, 1, "unsigned f(unsigned x){return x>>1;} int main(){return f(-2)==2147483647;}")
	gives(t, 13, "int main(){int i; if(0){ l: for(i=10;;){ if(i++>11) break; } return i; } goto l;}")
}

// TestSteps counts the steps of each kind of statement and expression; the block of main and the `return 0;` are 3 of them.
func TestSteps(t *testing.T) {
	for src, want := range map[string]int{
		"":                                   0,
		";":                                  1,
		"{}":                                 1,
		"{;;}":                               3,
		"1;":                                 2,
		"i;":                                 2,
		"a[1];":                              3,
		"-1;":                                3,
		"1+2;":                               4,
		"0&&1;":                              3,
		"1&&0;":                              4,
		"1||0;":                              3,
		"0||0;":                              4,
		"1?2:3+4;":                           4,
		"0?2:3+4;":                           6,
		"1,2,3;":                             6,
		"i=1;":                               3,
		"i+=1;":                              3,
		"a[1]=2;":                            4,
		"a[1]-=2;":                           4,
		"a[i+1]=2;":                          6,
		"++i;":                               2,
		"i--;":                               2,
		"++a[1];":                            3,
		"a[1]--;":                            3,
		"getc();":                            2,
		"putc(1);":                           3,
		"f(1,2);":                            4 + 1 + 1 + 3,
		"g(a);":                              2 + 1,
		"int k;":                             1,
		"int k=1,l,m=2;":                     3,
		"int k[2];":                          1,
		"if(1);":                             3,
		"if(0);":                             2,
		"if(1);else{;}":                      3,
		"if(0);else{;}":                      4,
		"while(0);":                          2,
		"while(i++<2);":                      1 + 3*3 + 2,
		"do;while(0);":                       3,
		"do;while(i++<2);":                   1 + 3*4,
		"for(;0;);":                          2,
		"for(1;0;);":                         3,
		"for(int k=1;0;);":                   4,
		"for(;i++<2;);":                      1 + 3*3 + 2,
		"for(;i++<2;i);":                     1 + 3*3 + 2 + 2,
		"for(;;)break;":                      2,
		"for(;;){break;}":                    3,
		"while(i++<2)continue;":              1 + 3*3 + 2,
		"for(;i++<2;i)continue;":             1 + 3*3 + 2 + 2,
		"do continue;while(0);":              3,
		"switch(1);":                         3 - 1,
		"switch(1)case 1:;":                  4,
		"switch(1)case 2:;":                  2,
		"switch(1){;case 1:;;}":              5,
		"switch(2){;case 1:;default:;}":      4,
		"switch(1){case 1:break;}":           4,
		"l:;":                                2,
		"l:m:;":                              3,
		"goto l;;l:;":                        3,
		"goto l;while(0){l:;}":               4,
		"goto l;for(;0;1)l:;":                5,
		"goto l;for(1;;){l:break;}":          3,
		"goto l;if(1)l:;else;":               3,
		"goto l;switch(1)l:;":                3,
		"goto l;do l:;while(0);":             4,
		"switch(7)case 7:switch(8)case 8:;":  7,
		"case7:;goto e;e:switch(9){e2:;}{;}": 2 + 1 + 1 + 2 + 2,
	} {
		src = "int i;int a[3];int f(int x,int y){return x+y;}int g(int x[]){}int main(){" + src + "return 0;}"
		if o := run(t, src, "", plenty); o.Stop != api.StopExit || o.Steps != want+3 {
			t.Errorf("%s: %+v, want %d steps", src, o, want+3)
		}
	}
	for src, want := range map[string]int{"int main(){return 7;}": 3, "int main(){}": 1, "int main(){exit(3);}": 4, "int main(){return 1/0;}": 5, "int a[1];int main(){a[1]=2;}": 5, "int a[1];int main(){a[1]+=2;}": 4, "int f(){}int main(){f();}": 4} {
		o := run(t, src, "", plenty)
		if o.Steps != want {
			t.Errorf("%s: %+v, want %d steps", src, o, want)
		}
		for fuel := range want {
			if o := run(t, src, "", fuel); o != (api.Outcome{Stop: api.StopFuel, Steps: fuel}) {
				t.Errorf("%s with %d: %+v", src, fuel, o)
			}
		}
		if again := run(t, src, "", want); again != o {
			t.Errorf("%s with just enough: %+v", src, again)
		}
	}
}

func TestOperators(t *testing.T) {
	for expr, want := range map[string]uint32{
		"m+n": 5, "m-n": 1<<32 - 19, "m*n": 1<<32 - 84, "n/m": 1<<32 - 1, "n%m": 5, "m/n": 0, "m%n": 1<<32 - 7, "-7/2": 1<<32 - 3, "-7%2": 1<<32 - 1, "m/2": 1<<32 - 3, "m%2": 1<<32 - 1,
		"m>>1": 1<<32 - 4, "m>>33": 1<<32 - 4, "m>>1u": 1<<32 - 4, "u>>1": 1<<31 - 1, "u>>m": 127, "1<<35": 8, "1<<u": 1 << 30, "m&n": 8, "m|n": 1<<32 - 3, "m^n": 1<<32 - 11,
		"m<n": 1, "m<=n": 1, "m>n": 0, "m>=n": 0, "m==n": 0, "m!=n": 1, "u<n": 0, "u<=n": 0, "u>n": 1, "u>=n": 1, "u==-2": 1, "m<2u": 0, "m<=m": 1, "m>=m": 1, "m>m": 0, "m<m": 0, "m<0u": 0, "0u>m": 0, "1u<m": 1,
		"u/3": 1431655764, "u%10": 4, "m/7u": 613566755, "m%10u": 9, "s/-1": 1 << 31, "s%-1": 0, "u/u": 1, "-u": 2, "~n": 1<<32 - 13, "!n": 0, "!z": 1, "+m": 1<<32 - 7, "!m": 0, "-m": 7, "~u": 1,
		"n&&m": 1, "z&&1/z": 0, "n&&z": 0, "n||1/z": 1, "z||n": 1, "z||z": 0, "n?m:1/z": 1<<32 - 7, "z?1/z:n": 12, "(1/n,n)": 12,
		"(n=m)": 1<<32 - 7, "(n+=m)": 5, "(n-=m)": 19, "(n*=m)": 1<<32 - 84, "(n/=m)": 1<<32 - 1, "(n%=m)": 5, "(m>>=1)": 1<<32 - 4, "(m>>=1u)": 1<<32 - 4, "(u>>=1)": 1<<31 - 1, "(n<<=34)": 48, "(n&=m)": 8, "(n|=m)": 1<<32 - 3, "(n^=m)": 1<<32 - 11,
		"(m/=2u)": 2147483644, "(m%=10u)": 9, "(u/=-2)": 1, "(m/=2)": 1<<32 - 3,
		"(c=300)": 44, "(c=-1)": 255, "(c+=200)": 144, "(c<<=1)": 144, "(c-=201)": 255, "((c=400)==144)": 1, "++c": 201, "c++": 200, "c--": 200, "--c": 199, "(c=255,++c)": 0, "(c=0,--c)": 255, "(c=255,c++)": 255, "(c=255,c++,c)": 0, "(c=0,c--,c)": 255,
		"(b[1]=511)": 255, "(b[1]=511,b[1])": 255, "(b[1]-=1)": 255, "--b[1]": 255, "b[1]--": 0, "(b[1]--,b[1])": 255, "(b[2]=257,++b[2])": 2,
		"++n": 13, "n++": 12, "(n++,n)": 13, "--z": 1<<32 - 1, "z--": 0, "(z--,z)": 1<<32 - 1, "(a[2]=5,a[2]++)": 5, "(a[2]=5,a[2]++,a[2])": 6, "--a[0]": 1<<32 - 1,
		"'a'+1": 98, "E": 4, "-E": 1<<32 - 4, "(n=5)+n": 10, "n+(n=5)": 17, "(n+=(n=5))": 17, "(a[1]+=(a[1]=5))": 5, "(a[n=1]=n)": 1, "(n=1,a[n]=(n=2),a[1])": 2, "(n+=n++)": 24, "c/-1": 1<<32 - 200, "c>-1": 1, "c>>1": 100,
	} {
		gives(t, want, "enum{E=4};int z;int a[3];char b[3];int main(){int m=-7,n=12,s=1<<31;unsigned u=-2;char c=200;return "+expr+";}")
	}
}

func TestCalls(t *testing.T) {
	for want, list := range map[uint32][]string{
		0:         {"int main(){}", "int f(){}int main(){return f();}", "int f(int x){if(x)return 5;}int main(){return f(0);}", "char f(){return 256;}int main(){return f();}"},
		1:         {"int f(char c){return c;}int main(){return f(257);}", "int n;int f(){n++;}int main(){f();return n;}", "int f(int a[]){a[1]=1;}int main(){int b[2];f(b);return b[1];}"},
		2:         {"int g;int f(int x){int y;if(x){y=2;f(0);return y;}y=7;return y;}int main(){return f(1);}", "int f(){int x;x++;return x;}int main(){f();f();return f()+1;}"},
		44:        {"char f(){return 300;}int main(){return f();}", "char c=300;int main(){return c;}", "int f(char c){return c;}int main(){return f(300);}", "int main(){char c=300;return c;}", "int main(){for(char c=300;;)return c;}"},
		300:       {"int f(){return 300;}int main(){return f();}", "int main(){exit(300);return 1;}", "int f(){exit(300);}int main(){f();return 1;}", "int main(){return 300;exit(2);}", "void f(){exit(300);}void g(){f();}int main(){g(),1;return 2;}"},
		6:         {"int f(int a[],int n){return n?a[n]+f(a,n-1):a[0];}int b[3];int main(){b[0]=1;b[1]=2;b[2]=3;return f(b,2);}", "int f(int a[]){return g(a)+1;}int g(int x[]){return x[0];}int main(){int q[1];q[0]=5;return f(q);}"},
		255:       {"int f(char a[]){a[0]=-1;return a[0];}int main(){char b[1];return f(b);}", "int main(){return putc(255);}", "int main(){return putc(-1);}"},
		1<<32 - 1: {"int main(){return getc();}", "unsigned f(){return -1;}int main(){return f();}", "int main(){getc();return getc();}", "int main(){exit(-1);}"},
		7:         {"int x=3;int f(int x){return x;}int main(){return f(4)+x;}", "int x=7;int main(){int y=x;{int x=5;}return y;}"},
	} {
		for _, src := range list {
			gives(t, want, src)
		}
	}
	says(t, "abc", "int f(int a,int b,int c){}int main(){f(putc('a'),putc('b'),putc('c'));return 0;}")
	says(t, "inp", "int main(){for(int i=0;i<3;i++)putc(getc());return 0;}")
	says(t, "\x00\xff\x01", "int main(){putc(256);putc(-1);putc(257);return 0;}")
	if o := run(t, "int main(){return getc()*256+getc();}", "\x80\xfe", plenty); o.Code != 0x80fe {
		t.Errorf("%+v", o)
	}
}

func TestTraps(t *testing.T) {
	traps(t, api.TrapDiv, "a", "int main(){return putc('a')/0;}")
	traps(t, api.TrapDiv, "ab", "int main(){putc('a')%(putc('b')-'b');}")
	traps(t, api.TrapDiv, "", "int main(){int x=1;x/=0;}")
	traps(t, api.TrapDiv, "a", "int main(){int x=1;x%=putc('a')*0;}")
	traps(t, api.TrapDiv, "", "int main(){1u/0;}")
	traps(t, api.TrapIndex, "", "int a[2];int main(){return a[2];}")
	traps(t, api.TrapIndex, "", "int a[2];int main(){return a[-1];}")
	traps(t, api.TrapIndex, "r", "int a[2];int main(){a[2]=putc('r');}")
	traps(t, api.TrapIndex, "l", "int a[2];int main(){a[putc('l')]+=putc('r');}")
	traps(t, api.TrapIndex, "lr", "int a[2];int main(){a[putc('l')]=putc('r');}")
	traps(t, api.TrapIndex, "", "int a[2];int main(){++a[2];}")
	traps(t, api.TrapIndex, "", "int a[2];int main(){a[2]--;}")
	traps(t, api.TrapIndex, "", "int f(int a[]){return a[3];}int main(){int a[3];f(a);}")
	traps(t, api.TrapIndex, "", "int main(){int a[1000];return a[1000];}")
	gives(t, 0, "int main(){int a[1000];return a[999];}")
	traps(t, api.TrapDepth, "a", "int f(int x){f(0);}int main(){if(0);f(putc('a'));}")
	traps(t, api.TrapDepth, strings.Repeat("a", 50), "int f(int x){f(putc('a'));}int main(){f(putc('a'));}")
	gives(t, 49, "int n;int f(){n++;if(n<49)f();return n;}int main(){return f();}")
	traps(t, api.TrapDepth, "", "int n;int f(){n++;if(n<50)f();return n;}int main(){return f();}")
	gives(t, 98, "int n;int f(){n++;if(n<49)f();return n;}int main(){int x=f();n=0;return x+f();}")
	traps(t, api.TrapDepth, "", "int main(){return main();}")
	gives(t, 3, "int n;int main(){if(n++<49){main();exit(3);}putc(1);exit(3);}")
}

func TestWhereControlGoes(t *testing.T) {
	for _, x := range sample.Control() {
		says(t, x.Output, x.Source)
	}
}

func TestArguments(t *testing.T) {
	p := programOf(t, "int main(){while(getc()!=-1);return 9;}")
	for _, x := range []struct {
		input int
		fuel  int
		e     api.Errno
	}{{10000, 0, api.OK}, {10001, 0, api.ErrArg}, {0, -1, api.ErrArg}, {0, 1<<30 + 1, api.ErrArg}, {10000, 1 << 30, api.OK}, {10001, -1, api.ErrArg}, {0, 1, api.OK}, {0, -1 << 62, api.ErrArg}, {0, 1 << 62, api.ErrArg}} {
		o, e := model.Run(p, strings.Repeat("a", x.input), x.fuel)
		if e != x.e || e != api.OK && o != (api.Outcome{}) {
			t.Errorf("%+v: %d, %+v", x, e, o)
		}
		if x.fuel == 1<<30 && e == api.OK && (o.Stop != api.StopExit || o.Code != 9) {
			t.Errorf("%+v: %+v", x, o)
		}
	}
}

func TestNothingIsChanged(t *testing.T) {
	src := "int x=3;int a[2];int f(int b[]){b[0]++;x++;return b[0];}int main(){int i=2;switch(i){case 2:goto l;l:;}return f(a)*x;}"
	p, q := programOf(t, src), programOf(t, src)
	first, _ := model.Run(p, "abc", plenty)
	second, _ := model.Run(p, "abc", plenty)
	if !reflect.DeepEqual(p, q) || first != second {
		t.Errorf("%+v, %+v", first, second)
	}
}

func TestDeepPrograms(t *testing.T) {
	gives(t, 1, "int main(){return "+strings.Repeat("- ", 3900)+"1;}")
	gives(t, 5, "int main(){"+strings.Repeat("{", 1900)+"return 5;"+strings.Repeat("}", 1900)+"}")
	gives(t, 6, "int main(){int i;"+strings.Repeat("if(1)", 900)+"i=6;return i;}")
	gives(t, 9, "int main(){int i=9;"+strings.Repeat("do ", 600)+";"+strings.Repeat("while(0);", 600)+"return i;}")
	gives(t, 50, "int n;int f(){return "+strings.Repeat("- ", 3000)+"(n++<48&&f());}int main(){f();return n+1;}")
}
