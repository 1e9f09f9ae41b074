package flow_test

import (
	"strings"
	"testing"

	"switchback/api"
)

// around stands around expressions: variables of all sorts, and what shows all that they hold at the end.
const (
	head = "int x0;int g=3;char h=200;int ga[3];char gb[2];unsigned gu=4000000000;" +
		"void show(unsigned w){putc(w);putc(w>>8);putc(w>>24);}" +
		"int f(int a,char b){return a*3-b;}char k(int v[],int i){v[i&1]+=i;return v[1]*50;}"
	body = "int main(){int x=2,y=1;char c=100;unsigned u=-5;int a[3];char b[2];a[0]=10;a[1]=20;a[2]=30;b[0]=250;b[1]=7;ga[1]=5;gb[1]=255;"
	tail = "show(x);show(y);show(c);show(u);show(g);show(h);show(gu);show(a[0]);show(a[1]);show(a[2]);show(b[0]);show(b[1]);show(ga[0]);show(ga[1]);show(gb[1]);return 0;}"
)

// pieces are expressions that read, store, trap, decide.
func pieces() []string {
	return strings.Split("x y c u g h gu 5 300 1u -1 a[x&1] b[y&1] ga[y] gb[1] x++ --x c++ ++c u-- g-- ++h gu++ a[1]++ --a[x&1] b[0]-- ++b[1] ga[y]++ gb[y]-- "+
		"(x=7) (x=y) (y=x) (c=300) (x+=c) (c+=x) (u=x) (u>>=x) (x>>=1) (a[x&1]=g) (a[x&1]+=x) (b[1]=x) (h-=3) (g=c=260) (x=x) (x=!x) (x=-x) (x=x++) (x=a[x&1]++) "+
		"f(x,c) f(x++,x) f(x,x++) k(a,x) k(ga,y) putc(x) putc(x++) getc() !x ~c -u +x (x,g) (x++,x) (x&&y) (x&&x++) (y||x++) (x?c:g) (x?x:x++) (x=y?x:3) (y?x++:g) (x=(x=4)) a[x+5] 1/(x-2) (x/=y-1) a[x=1]", " ")
}

// TestPairs puts any two pieces beside one another: the left one's word is taken ahead of the right one, and both are done once.
func TestPairs(t *testing.T) {
	t.Parallel()
	var list []string
	for _, l := range pieces() {
		for _, r := range pieces() {
			list = append(list, "show("+l+"+ "+r+");")
		}
	}
	for i, l := range pieces() {
		for j, r := range pieces() {
			ops := strings.Split("+ - * << >> & | ^ == != < <= > >= / %", " ")
			op := ops[(i*7+j)%len(ops)]
			list = append(list, "show(("+l+")"+op+"("+r+"));", "show(f("+l+","+r+"));", "show((("+l+"),"+r+"));", "show("+l+"?"+r+":x);", "if(("+l+")"+op+"("+r+"))show(1);", "a[("+l+")&1]="+r+";")
		}
	}
	all(t, list)
}

// TestStores puts each piece into each place, by each operator.
func TestStores(t *testing.T) {
	t.Parallel()
	var list []string
	for _, r := range pieces() {
		for _, p := range []string{"x", "y", "c", "u", "g", "h", "gu", "a[1]", "a[x&1]", "a[x]", "b[y]", "b[x++&1]", "ga[y]", "gb[x-1]", "a[x+1]"} {
			for _, op := range strings.Split("= += -= *= /= %= <<= >>= &= |= ^=", " ") {
				list = append(list, p+op+r+";", "show("+p+op+r+");")
			}
		}
		list = append(list, "int v="+r+";show(v);", "char v="+r+";show(v);", "unsigned v="+r+";show(v);", r+";", "x,"+r+";", r+",y;", "switch("+r+"){case 2:show(2);case 0:show(0);break;default:show(9);}")
	}
	all(t, list)
}

// TestCounts has all that ++ and -- may stand at, with its word asked for and not.
func TestCounts(t *testing.T) {
	t.Parallel()
	var list []string
	for _, p := range []string{"x", "c", "u", "g", "h", "gu", "a[1]", "a[x]", "a[x++]", "b[0]", "b[y--]", "ga[1]", "gb[1]", "gb[0]", "a[3]", "b[-1]"} {
		for _, n := range []string{"++" + p, p + "++", "--" + p, p + "--"} {
			list = append(list, n+";", "show("+n+");", "x="+n+";", "c="+n+";", "a["+n+"&1]=9;", "if("+n+")show(5);", "show("+n+"+"+p+");", "for(;y<3;"+n+")y++;", "for("+n+";y<3;)y++;")
		}
	}
	all(t, list)
}

// all checks the statements one by one.
func all(t *testing.T, list []string) {
	t.Helper()
	ended := 0
	for _, s := range list {
		if o := holds(t, head+body+s+tail, "\x03\xff"); o.Stop == api.StopExit {
			ended++
		}
	}
	if ended < len(list)/2 {
		t.Errorf("of %d only %d ended", len(list), ended)
	}
}
