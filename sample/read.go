package sample

import (
	"strconv"

	"switchback/api"
	"switchback/check"
	"switchback/lex"
	"switchback/parse"
)

// Read is a source as a program; what is wrong with it is empty, if nothing is.
func Read(src string) (p api.Program, wrong string) {
	tokens, at, e := lex.Lex(src)
	if e != api.OK {
		return p, refusal("lex", e, at)
	}
	tree, at, e := parse.Parse(tokens)
	if e != api.OK {
		return p, refusal("parse", e, at)
	}
	p, at, e = check.Check(tree)
	if e != api.OK {
		return p, refusal("check", e, at)
	}
	return p, ""
}

func refusal(layer string, e api.Errno, at int) string {
	return layer + ": " + strconv.Itoa(int(e)) + " at " + strconv.Itoa(at)
}

// Input is an input; which one, the number says. About every second byte is a small one.
func Input(number uint64) string {
	d := dice{number}
	b := make([]byte, d.below(40))
	for i := range b {
		b[i] = byte(d.below(256))
		if d.one(2) {
			b[i] %= 6
		}
	}
	return string(b)
}
