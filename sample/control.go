package sample

// Said is a source whose run ends with 0, and what comes out of it on the input `input`.
type Said struct {
	Output string
	Source string
}

// Control are sources in which control goes wherever C lets it.
func Control() []Said {
	return []Said{
		{"ac", "int main(){goto l;{putc('x');int i=1;l:putc('a'+i);}putc('c');return 0;}"},
		{"bc", "int main(){goto l;if(putc('x')){putc('a');l:putc('b');}else putc('e');putc('c');return 0;}"},
		{"ec", "int main(){goto l;if(putc('x')){putc('a');}else{putc('y');l:putc('e');}putc('c');return 0;}"},
		{"bdabdc", "int main(){int i;goto l;while(i++<1){putc('a');l:putc('b');putc('d');}putc('c');return 0;}"},
		{"bwabwc", "int main(){int i;goto l;do{putc('a');l:putc('b');}while(putc('w'),i++<1);putc('c');return 0;}"},
		{"b3tab3tc", "int main(){int i;goto l;for(putc('1');putc('t'),i++<1;putc('3')){putc('a');l:putc('b');}putc('c');return 0;}"},
		{"bc", "int main(){goto l;switch(putc('s')){case 1:putc('x');l:putc('b');}putc('c');return 0;}"},
		{"bc", "int main(){goto l;switch(putc('s')){case 1:putc('x');l:putc('b');break;putc('y');}putc('c');return 0;}"},
		{"bc", "int main(){goto l;while(putc('s')){l:putc('b');break;}putc('c');return 0;}"},
		{"b3c", "int main(){goto l;for(;0;putc('3')){l:putc('b');continue;putc('y');}putc('c');return 0;}"},
		{"bwc", "int main(){goto l;do{l:putc('b');continue;putc('y');}while(putc('w')==0);putc('c');return 0;}"},
		{"1234", "int main(){goto a;b:putc('2');goto c;a:putc('1');goto b;c:putc('3');{goto d;}d:putc('4');return 0;}"},
		{"d", "int main(){switch(5){putc('x');case 1:putc('a');default:putc('d');}return 0;}"},
		{"dab", "int main(){switch(5){default:putc('d');case 1:putc('a');case 2:putc('b');}return 0;}"},
		{"b", "int main(){switch(2){default:putc('d');case 1:putc('a');case 2:putc('b');}return 0;}"},
		{"", "int main(){switch(3){case 1:putc('a');case 2:putc('b');}return 0;}"},
		{"ic", "int main(){switch(3){case 1:putc('a');switch(7){case 3:putc('x');}case 2:;{while(0){case 3:putc('i');}}}putc('c');return 0;}"},
		{"m", "int main(){switch(-1){case 4294967295:putc('m');break;case 1:putc('x');}return 0;}"},
		{"aXbY", "int main(){for(int i=0;i<2;i++){switch(i){case 0:putc('a');break;case 1:putc('b');}putc('X'+i);}return 0;}"},
		{"ab", "int main(){for(int i=0;i<3;i++){switch(i){case 2:continue;default:putc('a'+i);}}return 0;}"},
		{"0123", "int main(){int i;l:putc('0'+i++);if(i<4)goto l;return 0;}"},
		{"123", "int main(){for(int i=0;i<3;i++){int x;x++;putc('0'+x);}return 0;}"},
		{"111", "int main(){for(int i=0;i<3;i++){int x=0;x++;putc('0'+x);}return 0;}"},
		{"8", "int main(){goto l;{int x=5;l:x+=8;putc('0'+x);}return 0;}"},
		{"5", "int main(){int i;{int a[2];a[1]+=i?0:5;if(i++)putc('0'+a[1]);}if(i<2)goto b;return 0;b:{goto c;}c:{int a[2];}i=1;{int q;q=i;}goto d;{int a[2];d:;}{int z[1];z[0]=5;putc('0'+z[0]);}return 0;}"},
		{"ba", "int main(){if(1)if(0)putc('x');else putc('b');putc('a');return 0;}"},
		{"iwo", "int main(){while(1){while(1){putc('i');break;}putc('w');break;}putc('o');return 0;}"},
		{"n", "int main(){int i=2;while(i){i=0;continue;}do{break;}while(1);for(;;){for(;;)break;break;}putc('n');return 0;putc('x');}"},
		{"ab", "int main(){putc('a');goto l;return 1;while(1){putc('x');}l:putc('b');return 0;}"},
		{"a", "int main(){if(0)return 1;else{putc('a');exit(0);}return 2;}"},
	}
}
