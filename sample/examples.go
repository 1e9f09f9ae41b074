package sample

import "switchback/api"

// Ended is a source, and how its run ends on the input `input`.
type Ended struct {
	Stop   int
	Code   uint32
	Output string
	Source string
}

// Examples are those of the document, the ones that are programs.
func Examples() []Ended {
	return []Ended{
		{api.StopExit, 7, "", "int main(){return 7;}"},
		{api.StopExit, 0, "bcdabcdabcd", "int main(){int n=3; switch(n){case 0: do{ putc('a'); case 3: putc('b'); case 2: putc('c'); case 1: putc('d'); }while(--n>0);} return n;}"},
		{api.StopExit, 3, "yxyxy", "int main(){int i=0; goto in; while(i<3){ putc('x'); in: putc('y'); ++i; } return i;}"},
		{api.StopExit, 0, "input", "int main(){int c; while((c=getc())!=-1) putc(c); return 0;}"},
		{api.StopTrap, api.TrapIndex, "", "int a[3]; int main(){a[3]=1; return 0;}"},
		{api.StopTrap, api.TrapDiv, "", "int main(){return 1/0;}"},
		{api.StopTrap, api.TrapDepth, "", "int f(){return f();} int main(){return f();}"},
		{api.StopFuel, 0, "", "int main(){for(;;);}"},
		{api.StopExit, 1, "", "unsigned f(unsigned x){return x>>1;} int main(){return f(-2)==2147483647;}"},
		{api.StopExit, 13, "", "int main(){int i; if(0){ l: for(i=10;;){ if(i++>11) break; } return i; } goto l;}"},
	}
}
