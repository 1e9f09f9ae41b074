package check

import "switchback/api"

// What a name can stand for.
const (
	anEntry = iota
	aScalar
	anArray
	aFunction
)

// symbol is what a name stands for: num is an entry's value, else the number of the variable or the function; own is 1 of a function's variables, 0 of the file's.
type symbol struct {
	kind int
	typ  int
	own  int
	num  int
}

// scope has the names that are known in it by now.
type scope map[string]symbol

// fileScope is the file's place among the scopes: behind that of the functions that are there.
const fileScope = 1

// given is the scope of the functions that are there.
func given() scope {
	return scope{
		"getc": {kind: aFunction, num: api.CallGetc},
		"putc": {kind: aFunction, num: api.CallPutc},
		"exit": {kind: aFunction, num: api.CallExit},
	}
}

// param is what a call has to know of a parameter.
type param struct {
	typ   int
	array bool
}

// head is what has to be known of a function from without: where it begins, what it gives and takes.
type head struct {
	at     int
	typ    int
	params []param
}

// headOf reads the head of a function of the file: of one that stands further below, too.
func (c *checker) headOf(fn api.Node) head {
	h := head{at: fn.At, typ: fn.Type}
	for _, k := range fn.Kids[:len(fn.Kids)-1] {
		n := c.nodes[k]
		h.params = append(h.params, param{n.Type, n.Op == 1})
	}
	return h
}

// head is that of the function with a number.
func (c *checker) head(num int) head {
	switch num {
	case api.CallGetc:
		return head{typ: api.TypeInt}
	case api.CallPutc:
		return head{typ: api.TypeInt, params: []param{{typ: api.TypeInt}}}
	case api.CallExit:
		return head{typ: api.TypeVoid, params: []param{{typ: api.TypeInt}}}
	}
	return c.heads[num]
}

func (c *checker) openScope() {
	c.scopes = append(c.scopes, scope{})
}

func (c *checker) closeScope() {
	c.scopes = c.scopes[:len(c.scopes)-1]
}

// innermost is the scope in which something is declared now.
func (c *checker) innermost() scope {
	return c.scopes[len(c.scopes)-1]
}

// find tells what a name stands for.
func (c *checker) find(name string) (symbol, bool) {
	for i := len(c.scopes) - 1; i >= 0; i-- {
		if s, ok := c.scopes[i][name]; ok {
			return s, true
		}
	}
	return symbol{}, false
}
