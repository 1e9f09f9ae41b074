package enc_test

import (
	"math"
	"testing"

	"switchback/api"
	"switchback/enc"
)

// form is a row of the chapter's table: of some Ops the greatest A and B, and the least and the greatest Imm.
type form struct {
	a, b, least, most int
}

// formOf reads the chapter's table.
func formOf(op int) form {
	switch {
	case op == 1: // LI
		return form{11, 0, -32768, 32767}
	case op == 2 || op == 42 || op == 45 || op == 46 || op == 47: // LIT, JTAB, GETC, PUTC, EXIT
		return form{11, 0, 0, 0}
	case op == 3 || op == 24 || op == 25 || op == 26 || op == 29: // MOV, NEG, NOT, LOW, CHK
		return form{11, 11, 0, 0}
	case op == 4 || op == 27 || op == 28: // ADDI, LD, ST
		return form{11, 11, -32768, 32767}
	case op >= 5 && op <= 23:
		return form{11, 11, 0, 11}
	case op >= 30 && op <= 39:
		return form{11, 11, -128, 127}
	case op == 40: // JMP
		return form{0, 0, -128, 127}
	case op == 48: // TRAP
		return form{0, 0, 0, 255}
	}
	return form{} // JML, CALL, RET
}

// want is what Encode is to answer.
func want(c api.Code) (uint32, api.Errno) {
	if c.Op < 1 || c.Op > 48 {
		return 0, api.ErrEncOp
	}
	f := formOf(c.Op)
	if c.A < 0 || c.A > f.a || c.B < 0 || c.B > f.b || c.Imm < f.least || c.Imm > f.most {
		return 0, api.ErrEncOperand
	}
	n := c.Imm
	if n < 0 {
		n += 65536
	}
	return uint32(c.Op*1<<24 + c.A*1<<20 + c.B*1<<16 + n), api.OK
}

// encoded checks what Encode answers, and Decode of that.
func encoded(t *testing.T, c api.Code) {
	w, e := enc.Encode(c)
	if x, f := want(c); w != x || e != f {
		t.Fatalf("Encode of %+v: %08x, %d, want %08x, %d", c, w, e, x, f)
	}
	if e != api.OK {
		return
	}
	if again, e := enc.Decode(w); again != c || e != api.OK {
		t.Fatalf("Decode of %08x: %+v, %d, want %+v", w, again, e, c)
	}
}

// decoded checks what Decode answers, and Encode of that.
func decoded(t *testing.T, w uint32) {
	c, e := enc.Decode(w)
	op := w / (1 << 24)
	if op < 1 || op > 48 {
		if e != api.ErrEncOp || c != (api.Code{}) {
			t.Fatalf("Decode of %08x: %+v, %d, want ErrEncOp", w, c, e)
		}
		return
	}
	x := api.Code{Op: int(op), A: int(w / (1 << 20) % 16), B: int(w / (1 << 16) % 16), Imm: int(w % (1 << 16))}
	if formOf(x.Op).least < 0 && x.Imm >= 32768 {
		x.Imm -= 65536
	}
	if _, f := want(x); f != api.OK {
		if e != f || c != (api.Code{}) {
			t.Fatalf("Decode of %08x: %+v, %d, want %d", w, c, e, f)
		}
		return
	}
	if again, f := enc.Encode(c); c != x || e != api.OK || again != w || f != api.OK {
		t.Fatalf("Decode of %08x: %+v, %d, want %+v; Encode of that: %08x, %d", w, c, e, x, again, f)
	}
}

func TestExamples(t *testing.T) {
	for _, x := range []struct {
		c api.Code
		w uint32
		e api.Errno
	}{
		{api.Code{Op: api.MacLI, A: 3, Imm: -2}, 0x0130fffe, api.OK},
		{api.Code{Op: api.MacADD, A: 1, B: 2, Imm: 11}, 0x0512000b, api.OK},
		{api.Code{Op: api.MacRET}, 0x2c000000, api.OK},
		{api.Code{Op: api.MacTRAP, Imm: 3}, 0x30000003, api.OK},
		{api.Code{Op: api.MacMOV, A: 12}, 0, api.ErrEncOperand},
		{api.Code{Op: api.MacRET, A: 1}, 0, api.ErrEncOperand},
		{api.Code{Op: api.MacBEQ, Imm: 128}, 0, api.ErrEncOperand},
		{api.Code{}, 0, api.ErrEncOp},
		{api.Code{Op: 49}, 0, api.ErrEncOp},
	} {
		if w, e := enc.Encode(x.c); w != x.w || e != x.e {
			t.Errorf("Encode of %+v: %08x, %d", x.c, w, e)
		}
	}
	for _, x := range []struct {
		w uint32
		c api.Code
		e api.Errno
	}{
		{0x1e01ff80, api.Code{Op: api.MacBEQ, B: 1, Imm: -128}, api.OK},
		{0x1e010080, api.Code{}, api.ErrEncOperand},
		{0x00000001, api.Code{}, api.ErrEncOp},
		{0x310000ff, api.Code{}, api.ErrEncOp},
	} {
		if c, e := enc.Decode(x.w); c != x.c || e != x.e {
			t.Errorf("Decode of %08x: %+v, %d", x.w, c, e)
		}
	}
}

// registers are registers, and numbers that are none.
func registers() []int {
	l := []int{math.MinInt, -1 << 32, -16, -1}
	for r := range 34 {
		l = append(l, r)
	}
	return append(l, 256, 1<<16, 1<<28, 1<<32, 1<<32+1, math.MaxInt)
}

// numbers are those that Imm may be at the ends of some form, those one beyond, and others.
func numbers() []int {
	l := []int{math.MinInt, math.MinInt32, -1 << 32, -65537, -65536, -65535, math.MaxInt32, 1 << 32, 1<<32 + 1, 1<<32 - 1, math.MaxInt}
	for _, n := range []int{-32768, -256, -128, -12, 0, 11, 12, 127, 128, 255, 256, 32767, 32768, 65535, 65536} {
		l = append(l, n-1, n, n+1)
	}
	return l
}

// TestEachField has each Op with each of its fields at the ends of what it may be, and beyond, all of them together.
func TestEachField(t *testing.T) {
	for op := 1; op <= 48; op++ {
		for _, a := range registers() {
			for _, b := range registers() {
				for _, n := range numbers() {
					encoded(t, api.Code{Op: op, A: a, B: b, Imm: n})
				}
			}
		}
	}
}

// TestEachImm has each Op with each Imm up to far beyond what it may be.
func TestEachImm(t *testing.T) {
	t.Parallel()
	for op := 1; op <= 48; op++ {
		for n := -70000; n <= 70000; n++ {
			encoded(t, api.Code{Op: op, Imm: n})
			encoded(t, api.Code{Op: op, A: 11, Imm: n})
			encoded(t, api.Code{Op: op, A: 7, B: 11, Imm: n})
		}
	}
}

// TestNoOp has Ops that are none, and fields that may be of none.
func TestNoOp(t *testing.T) {
	for _, op := range []int{math.MinInt, -1 << 32, 1 - 1<<32, -256, -48, -1, 0, 49, 50, 255, 256, 257, 304, 1 << 24, 1 << 32, 1<<32 + 1, 1<<32 + 48, math.MaxInt} {
		for _, a := range []int{-1, 0, 11, 12} {
			for _, n := range numbers() {
				encoded(t, api.Code{Op: op, A: a, B: a, Imm: n})
			}
		}
	}
	for n := range 3000 {
		encoded(t, api.Code{Op: -n})
		encoded(t, api.Code{Op: 49 + n})
	}
}

// TestWords has all words by their higher halves, and for each Op and some registers by their lower halves.
func TestWords(t *testing.T) {
	t.Parallel()
	for high := range uint32(1 << 16) {
		for _, n := range numbers() {
			decoded(t, high<<16|uint32(n)&0xffff)
		}
	}
	for op := range uint32(256) {
		for low := range uint32(1 << 16) {
			for _, registers := range []uint32{0, 0x0b, 0x0c, 0xb0, 0xc0, 0xbb, 0xff} {
				decoded(t, op<<24|registers<<16|low)
			}
		}
	}
}

// TestHowMany counts the words of each Op that are told with Imm at the ends of what it may be: so no other fields are taken than there are.
func TestHowMany(t *testing.T) {
	for op := 1; op <= 48; op++ {
		f, n := formOf(op), 0
		for registers := range uint32(256) {
			for _, imm := range []int{f.least, f.most} {
				if _, e := enc.Decode(uint32(op)<<24 | registers<<16 | uint32(uint16(imm))); e == api.OK {
					n++
				}
			}
		}
		if n != 2*(f.a+1)*(f.b+1) {
			t.Errorf("%d: %d words", op, n)
		}
	}
}

// TestUnlike has all instructions by all registers, and Imm at some numbers: no two have the same word (P16.2).
func TestUnlike(t *testing.T) {
	t.Parallel()
	met := map[uint32]api.Code{}
	for op := 1; op <= 48; op++ {
		f := formOf(op)
		for a := range f.a + 1 {
			for b := range f.b + 1 {
				for _, n := range numbers() {
					c := api.Code{Op: op, A: a, B: b, Imm: n}
					w, e := enc.Encode(c)
					if e != api.OK {
						continue
					}
					if other, is := met[w]; is && other != c {
						t.Fatalf("%08x is of %+v and of %+v", w, c, other)
					}
					met[w] = c
				}
			}
		}
	}
}

// changed checks that two instructions that are unlike in one field have words that are unlike in just some of its bits.
func changed(t *testing.T, a, b api.Code, bits uint32) {
	w, e := enc.Encode(a)
	x, f := enc.Encode(b)
	if e != api.OK || f != api.OK {
		t.Fatalf("%+v: %d, %+v: %d", a, e, b, f)
	}
	if w == x || (w^x)&^bits != 0 {
		t.Fatalf("%+v: %08x, %+v: %08x", a, w, b, x)
	}
}

// TestOneField has instructions of which one field becomes another one (P16.3).
func TestOneField(t *testing.T) {
	t.Parallel()
	for op := 1; op <= 48; op++ {
		f := formOf(op)
		for _, c := range []api.Code{{Op: op, Imm: f.least}, {Op: op, A: f.a, B: f.b, Imm: f.most}, {Op: op, A: f.a / 2, B: f.b / 3, Imm: f.most / 2}} {
			for n := f.least; n <= f.most; n++ {
				if n != c.Imm {
					other := c
					other.Imm = n
					changed(t, c, other, 0xffff)
				}
			}
			for r := range 12 {
				other := c
				if other.A = r; r <= f.a && r != c.A {
					changed(t, c, other, 0xf00000)
				}
				other = c
				if other.B = r; r <= f.b && r != c.B {
					changed(t, c, other, 0xf0000)
				}
			}
		}
	}
}

// TestOtherOp has instructions that may be of two Ops: their words are unlike in the highest eight bits alone (P16.3).
func TestOtherOp(t *testing.T) {
	for op := 1; op <= 48; op++ {
		for other := 1; other <= 48; other++ {
			f, g := formOf(op), formOf(other)
			a, b, n := min(f.a, g.a), min(f.b, g.b), min(f.most, g.most)
			if op != other {
				changed(t, api.Code{Op: op, A: a, B: b, Imm: n}, api.Code{Op: other, A: a, B: b, Imm: n}, 0xff000000)
				n = max(f.least, g.least)
				changed(t, api.Code{Op: op, Imm: n}, api.Code{Op: other, Imm: n}, 0xff000000)
			}
		}
	}
}

func TestFollows(t *testing.T) {
	follows := map[int]int{2: 1, 41: 1, 43: 1, 42: -1}
	for op := -300; op <= 600; op++ {
		if n := enc.Follows(op); n != follows[op] {
			t.Errorf("%d: %d, want %d", op, n, follows[op])
		}
	}
	for _, op := range []int{math.MinInt, 1<<32 + 2, 1<<32 + 42, 2 - 1<<32, math.MaxInt} {
		if n := enc.Follows(op); n != 0 {
			t.Errorf("%d: %d", op, n)
		}
	}
	if enc.Follows(api.MacCALL) != 1 || enc.Follows(api.MacJML) != 1 || enc.Follows(api.MacLIT) != 1 || enc.Follows(api.MacJTAB) != -1 || enc.Follows(api.MacRET) != 0 {
		t.Error("of the names")
	}
}
