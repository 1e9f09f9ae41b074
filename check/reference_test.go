package check_test

import (
	"switchback/api"
)

// reading is a second, slow way to check: it asks every question of the tree anew, node by node, and keeps no scopes.
type reading struct {
	nodes  []api.Node
	parent []int
	nth    []int
	scope  []int // the node of the scope in which a node stands
	inside []int // the function in which a node stands, or -1
	names  []int // the nodes that declare something
}

// meaning is what a name stands for: a node that declares it, or the number of a function that is there.
type meaning struct {
	kind  string
	node  int
	given int
}

// wrong is thrown.
type wrong struct {
	at int
	e  api.Errno
}

func read(t api.Tree) (p api.Program, at int, e api.Errno) {
	defer func() {
		switch x := recover().(type) {
		case nil:
		case wrong:
			p, at, e = api.Program{}, x.at, x.e
		default:
			panic(x)
		}
	}()
	r := newReading(t)
	r.fileNames()
	for i := range r.nodes {
		if r.inConstant(i) {
			r.constantNode(i)
		} else {
			r.row(i)
		}
		r.labelsBehind(i)
	}
	r.mainRow()
	return r.program(), 0, api.OK
}

func newReading(t api.Tree) *reading {
	n := len(t.Nodes)
	r := &reading{nodes: t.Nodes, parent: make([]int, n), nth: make([]int, n), scope: make([]int, n)}
	for i, x := range t.Nodes {
		for k, kid := range x.Kids {
			r.parent[kid], r.nth[kid] = i, k
		}
		switch x.Kind {
		case api.NodeItem, api.NodeVar, api.NodeParam, api.NodeFunc:
			r.names = append(r.names, i)
		}
	}
	for i := range t.Nodes {
		s := i
		for s != n-1 {
			s = r.parent[s]
			if r.opens(s) {
				break
			}
		}
		r.scope[i] = s
		f, _ := r.around(i, api.NodeFunc)
		r.inside = append(r.inside, f)
	}
	return r
}

func (r *reading) fail(i int, e api.Errno) {
	panic(wrong{r.nodes[i].At, e})
}

func (r *reading) file() int {
	return len(r.nodes) - 1
}

func (r *reading) opens(i int) bool {
	switch r.nodes[i].Kind {
	case api.NodeFile, api.NodeFunc, api.NodeFor:
		return true
	case api.NodeBlock:
		return r.nodes[r.parent[i]].Kind != api.NodeFunc
	}
	return false
}

// around finds the innermost node around of one of some kinds within the function, and which kid leads there.
func (r *reading) around(i int, kinds ...int) (int, int) {
	for i != r.file() {
		k := r.nth[i]
		i = r.parent[i]
		for _, kind := range kinds {
			if r.nodes[i].Kind == kind {
				return i, k
			}
		}
	}
	return -1, 0
}

func (r *reading) functionOf(i int) int {
	return r.inside[i]
}

func given(name string) (int, bool) {
	n, ok := map[string]int{"getc": api.CallGetc, "putc": api.CallPutc, "exit": api.CallExit}[name]
	return n, ok
}

func (r *reading) meaning(name string, i int) meaning {
	for s := r.scope[i]; ; s = r.scope[s] {
		for _, d := range r.names {
			if r.nodes[d].Name == name && r.scope[d] == s && (d < i || r.nodes[d].Kind == api.NodeFunc) {
				return r.meant(d)
			}
		}
		if s == r.file() {
			break
		}
	}
	if n, ok := given(name); ok {
		return meaning{"function", -1, n}
	}
	return meaning{kind: "nothing"}
}

func (r *reading) meant(d int) meaning {
	switch n := r.nodes[d]; {
	case n.Kind == api.NodeItem:
		return meaning{"entry", d, 0}
	case n.Kind == api.NodeFunc:
		return meaning{"function", d, 0}
	case n.Op == 1:
		return meaning{"array", d, 0}
	}
	return meaning{"scalar", d, 0}
}

// fileNames is the first part of P3.1.
func (r *reading) fileNames() {
	var ahead []int
	count := map[int]int{}
	for d := range r.nodes {
		n := r.nodes[d]
		isName := n.Kind == api.NodeItem || n.Kind == api.NodeFunc || n.Kind == api.NodeVar && r.functionOf(d) < 0
		if !isName {
			continue
		}
		_, twice := given(n.Name)
		for _, a := range ahead {
			twice = twice || r.nodes[a].Name == n.Name
		}
		if twice {
			r.fail(d, api.ErrCheckTwice)
		}
		ahead = append(ahead, d)
		count[n.Kind]++
		if count[api.NodeFunc] > 60 || count[api.NodeVar] > 200 {
			r.fail(d, api.ErrCheckMany)
		}
	}
}

func (r *reading) isConstant(i int) bool {
	if i == r.file() {
		return false
	}
	p := r.nodes[r.parent[i]]
	switch p.Kind {
	case api.NodeItem:
		return true
	case api.NodeVar:
		return r.functionOf(i) < 0 || p.Op == 1 && r.nth[i] == 0
	case api.NodeCase:
		return r.nth[i] == 0
	}
	return false
}

func (r *reading) inConstant(i int) bool {
	for ; i != r.file(); i = r.parent[i] {
		if r.isConstant(i) {
			return true
		}
	}
	return false
}

func (r *reading) constantNode(i int) {
	n := r.nodes[i]
	switch n.Kind {
	case api.NodeNum, api.NodeUnary, api.NodeAnd, api.NodeOr, api.NodeCond:
	case api.NodeName:
		switch r.meaning(n.Name, i).kind {
		case "nothing":
			r.fail(i, api.ErrCheckNone)
		case "entry":
		default:
			r.fail(i, api.ErrCheckConst)
		}
	case api.NodeBinary:
		if (n.Op == api.OpDiv || n.Op == api.OpRem) && r.value(n.Kids[1]) == 0 {
			r.fail(i, api.ErrCheckConst)
		}
	default:
		r.fail(i, api.ErrCheckConst)
	}
}

// value is a constant's word, by numbers that are wide enough not to wrap.
func (r *reading) value(i int) int64 {
	n := r.nodes[i]
	switch n.Kind {
	case api.NodeNum:
		return int64(n.Num)
	case api.NodeName:
		return r.entryValue(r.meaning(n.Name, i).node)
	case api.NodeUnary:
		return unaryOf(n.Op, r.value(n.Kids[0]))
	case api.NodeAnd:
		return truth(r.value(n.Kids[0]) != 0 && r.value(n.Kids[1]) != 0)
	case api.NodeOr:
		return truth(r.value(n.Kids[0]) != 0 || r.value(n.Kids[1]) != 0)
	case api.NodeCond:
		if r.value(n.Kids[0]) != 0 {
			return r.value(n.Kids[1])
		}
		return r.value(n.Kids[2])
	}
	left, right := n.Kids[0], n.Kids[1]
	signed := r.typ(left) != "unsigned" && (r.typ(right) != "unsigned" || n.Op == api.OpShr)
	return binaryOf(n.Op, signed, r.value(left), r.value(right))
}

func truth(is bool) int64 {
	if is {
		return 1
	}
	return 0
}

const wide = int64(1) << 32

func asWord(x int64) int64 {
	return (x%wide + wide) % wide
}

func unaryOf(op int, x int64) int64 {
	switch op {
	case api.OpNeg:
		return asWord(-x)
	case api.OpNot:
		return wide - 1 - x
	case api.OpNil:
		return truth(x == 0)
	}
	return x
}

func binaryOf(op int, signed bool, a, b int64) int64 {
	power := int64(1) << (b % 32)
	if signed && a >= wide/2 {
		a -= wide
	}
	if signed && b >= wide/2 {
		b -= wide
	}
	switch op {
	case api.OpAdd:
		return asWord(a + b)
	case api.OpSub:
		return asWord(a - b)
	case api.OpMul:
		return int64(uint32(a) * uint32(b))
	case api.OpDiv:
		return asWord(a / b)
	case api.OpRem:
		return asWord(a % b)
	case api.OpShl:
		return int64(uint32(a) * uint32(power))
	case api.OpShr:
		// Rounded down, which is to fill with the highest bit.
		return asWord((a - (a%power+power)%power) / power)
	case api.OpAnd:
		return asWord(a) & asWord(b)
	case api.OpOr:
		return asWord(a) | asWord(b)
	case api.OpXor:
		return asWord(a) ^ asWord(b)
	case api.OpEq:
		return truth(a == b)
	case api.OpNe:
		return truth(a != b)
	case api.OpLt:
		return truth(a < b)
	case api.OpLe:
		return truth(a <= b)
	case api.OpGt:
		return truth(a > b)
	}
	return truth(a >= b)
}

func (r *reading) entryValue(d int) int64 {
	n := r.nodes[d]
	switch {
	case len(n.Kids) > 0:
		return r.value(n.Kids[0])
	case r.nth[d] == 0:
		return 0
	}
	return asWord(r.entryValue(r.nodes[r.parent[d]].Kids[r.nth[d]-1]) + 1)
}

// declared is how a type of a declaration is spoken of as a type of expressions.
func declared(typ int) string {
	return map[int]string{api.TypeVoid: "void", api.TypeInt: "int", api.TypeChar: "int", api.TypeUnsigned: "unsigned"}[typ]
}

func join(a, b string) string {
	if a == "unsigned" || b == "unsigned" {
		return "unsigned"
	}
	return "int"
}

// typ is the type of an expression whose nodes are without fault.
func (r *reading) typ(i int) string {
	n := r.nodes[i]
	kid := func(k int) string { return r.typ(n.Kids[k]) }
	switch n.Kind {
	case api.NodeNum:
		return declared(n.Type)
	case api.NodeName, api.NodeIndex:
		if m := r.meaning(n.Name, i); m.kind != "entry" {
			return declared(r.nodes[m.node].Type)
		}
		return "int"
	case api.NodeUnary:
		if n.Op == api.OpNil {
			return "int"
		}
		return kid(0)
	case api.NodeBinary:
		switch n.Op {
		case api.OpEq, api.OpNe, api.OpLt, api.OpLe, api.OpGt, api.OpGe:
			return "int"
		case api.OpShl, api.OpShr:
			return kid(0)
		}
		return join(kid(0), kid(1))
	case api.NodeCond:
		return join(kid(1), kid(2))
	case api.NodeAssign, api.NodePre, api.NodePost:
		return kid(0)
	case api.NodeComma:
		return kid(1)
	case api.NodeCall:
		m := r.meaning(n.Name, i)
		if m.node < 0 {
			return map[int]string{api.CallGetc: "int", api.CallPutc: "int", api.CallExit: "void"}[m.given]
		}
		return declared(r.nodes[m.node].Type)
	}
	return "int"
}

func (r *reading) needsValue(i int) {
	if r.typ(i) == "void" {
		r.fail(i, api.ErrCheckKind)
	}
}

// row is a row of P3.1's table.
func (r *reading) row(i int) {
	n := r.nodes[i]
	switch n.Kind {
	case api.NodeVar:
		r.varRow(i)
	case api.NodeParam:
		r.paramRow(i)
	case api.NodeName:
		r.nameRow(i)
	case api.NodeIndex:
		r.needsValue(n.Kids[0])
		switch r.meaning(n.Name, i).kind {
		case "nothing":
			r.fail(i, api.ErrCheckNone)
		case "array":
		default:
			r.fail(i, api.ErrCheckKind)
		}
	case api.NodeCall:
		r.callRow(i)
	case api.NodeUnary, api.NodeBinary, api.NodeAnd, api.NodeOr, api.NodeCond:
		for _, kid := range n.Kids {
			r.needsValue(kid)
		}
	case api.NodeAssign, api.NodePre, api.NodePost:
		if left := r.nodes[n.Kids[0]].Kind; left != api.NodeName && left != api.NodeIndex {
			r.fail(n.Kids[0], api.ErrCheckLeft)
		}
		if n.Kind == api.NodeAssign {
			r.needsValue(n.Kids[1])
		}
	case api.NodeIf, api.NodeWhile, api.NodeSwitch:
		r.needsValue(n.Kids[0])
	case api.NodeDo:
		r.needsValue(n.Kids[1])
	case api.NodeFor:
		if r.nodes[n.Kids[1]].Kind != api.NodeEmpty {
			r.needsValue(n.Kids[1])
		}
	case api.NodeReturn:
		r.returnRow(i)
	case api.NodeBreak:
		if s, _ := r.around(i, api.NodeWhile, api.NodeDo, api.NodeFor, api.NodeSwitch); s < 0 {
			r.fail(i, api.ErrCheckBreak)
		}
	case api.NodeContinue:
		if s, _ := r.around(i, api.NodeWhile, api.NodeDo, api.NodeFor); s < 0 {
			r.fail(i, api.ErrCheckBreak)
		}
	case api.NodeLabel, api.NodeCase, api.NodeDefault:
		r.targetRow(i)
	}
}

// inFunction lists the nodes of the function of a node that stand ahead of it and are of one of some kinds.
func (r *reading) inFunction(i int, kinds ...int) []int {
	var l []int
	for k := range i {
		for _, kind := range kinds {
			if r.nodes[k].Kind == kind && r.functionOf(k) == r.functionOf(i) {
				l = append(l, k)
			}
		}
	}
	return l
}

func (r *reading) varRow(i int) {
	n := r.nodes[i]
	local := r.functionOf(i) >= 0
	if n.Type == api.TypeVoid {
		r.fail(i, api.ErrCheckKind)
	}
	ahead := r.inFunction(i, api.NodeVar, api.NodeParam)
	for _, d := range ahead {
		if local && r.nodes[d].Name == n.Name && r.scope[d] == r.scope[i] {
			r.fail(i, api.ErrCheckTwice)
		}
	}
	if local && len(ahead) >= 200 {
		r.fail(i, api.ErrCheckMany)
	}
	if n.Op == 0 {
		if local && len(n.Kids) > 0 {
			r.needsValue(n.Kids[0])
		}
		return
	}
	size := r.value(n.Kids[0])
	if size < 1 || size > 1000 {
		r.fail(n.Kids[0], api.ErrCheckConst)
	}
	for _, d := range ahead {
		if x := r.nodes[d]; x.Kind == api.NodeVar && x.Op == 1 {
			size += r.value(x.Kids[0])
		}
	}
	if local && size > 1000 || size > 10000 {
		r.fail(i, api.ErrCheckMany)
	}
	if len(n.Kids) == 2 {
		r.fail(i, api.ErrCheckKind)
	}
}

func (r *reading) paramRow(i int) {
	n := r.nodes[i]
	if n.Type == api.TypeVoid {
		r.fail(i, api.ErrCheckKind)
	}
	for _, d := range r.nodes[r.parent[i]].Kids[:r.nth[i]] {
		if r.nodes[d].Name == n.Name {
			r.fail(i, api.ErrCheckTwice)
		}
	}
	if r.nth[i] >= 8 {
		r.fail(i, api.ErrCheckMany)
	}
}

// params lists whether a function's parameters are arrays, and of which types.
func (r *reading) params(m meaning) []api.Node {
	if m.node < 0 {
		return make([]api.Node, map[int]int{api.CallGetc: 0, api.CallPutc: 1, api.CallExit: 1}[m.given])
	}
	var l []api.Node
	for _, kid := range r.nodes[m.node].Kids {
		if r.nodes[kid].Kind == api.NodeParam {
			l = append(l, r.nodes[kid])
		}
	}
	return l
}

// isHandedOver tells whether a name is left to the call whose argument it is.
func (r *reading) isHandedOver(i int) bool {
	p := r.nodes[r.parent[i]]
	if p.Kind != api.NodeCall || r.nodes[i].Kind != api.NodeName {
		return false
	}
	m := r.meaning(p.Name, r.parent[i])
	if m.kind != "function" {
		return false
	}
	params := r.params(m)
	return len(params) == len(p.Kids) && params[r.nth[i]].Op == 1
}

func (r *reading) isLeft(i int) bool {
	switch r.nodes[r.parent[i]].Kind {
	case api.NodeAssign, api.NodePre, api.NodePost:
		return r.nth[i] == 0
	}
	return false
}

func (r *reading) nameRow(i int) {
	if r.isHandedOver(i) {
		return
	}
	switch kind := r.meaning(r.nodes[i].Name, i).kind; {
	case kind == "nothing":
		r.fail(i, api.ErrCheckNone)
	case kind == "scalar":
	case r.isLeft(i):
		r.fail(i, api.ErrCheckLeft)
	case kind != "entry":
		r.fail(i, api.ErrCheckKind)
	}
}

func (r *reading) callRow(i int) {
	n := r.nodes[i]
	m := r.meaning(n.Name, i)
	switch m.kind {
	case "nothing":
		r.fail(i, api.ErrCheckNone)
	case "function":
	default:
		r.fail(i, api.ErrCheckKind)
	}
	params := r.params(m)
	if len(params) != len(n.Kids) {
		r.fail(i, api.ErrCheckCall)
	}
	for k, kid := range n.Kids {
		if params[k].Op == 0 {
			r.needsValue(kid)
			continue
		}
		arg := r.nodes[kid]
		if arg.Kind != api.NodeName {
			r.fail(kid, api.ErrCheckCall)
		}
		if a := r.meaning(arg.Name, kid); a.kind != "array" || r.nodes[a.node].Type != params[k].Type {
			r.fail(kid, api.ErrCheckCall)
		}
	}
}

func (r *reading) returnRow(i int) {
	n := r.nodes[i]
	void := r.nodes[r.functionOf(i)].Type == api.TypeVoid
	switch {
	case void && len(n.Kids) == 0:
	case void || len(n.Kids) == 0 || r.typ(n.Kids[0]) == "void":
		r.fail(i, api.ErrCheckReturn)
	}
}

func (r *reading) switchOf(i int) int {
	s, _ := r.around(i, api.NodeSwitch)
	return s
}

func (r *reading) targetRow(i int) {
	n := r.nodes[i]
	if n.Kind != api.NodeLabel && r.switchOf(i) < 0 {
		r.fail(i, api.ErrCheckCase)
	}
	for _, a := range r.inFunction(i, n.Kind) {
		switch {
		case n.Kind == api.NodeLabel && r.nodes[a].Name == n.Name:
			r.fail(i, api.ErrCheckTwice)
		case n.Kind == api.NodeCase && r.switchOf(a) == r.switchOf(i) && r.value(r.nodes[a].Kids[0]) == r.value(n.Kids[0]):
			r.fail(i, api.ErrCheckTwice)
		case n.Kind == api.NodeDefault && r.switchOf(a) == r.switchOf(i):
			r.fail(i, api.ErrCheckDefault)
		}
	}
	if r.target(i) >= 300 {
		r.fail(i, api.ErrCheckMany)
	}
}

func (r *reading) target(i int) int {
	return len(r.inFunction(i, api.NodeLabel, api.NodeCase, api.NodeDefault))
}

// labelsBehind looks for the labels of a function's gotos behind its last node.
func (r *reading) labelsBehind(i int) {
	if i == r.file() || r.nodes[r.parent[i]].Kind != api.NodeFunc || r.nodes[i].Kind != api.NodeBlock {
		return
	}
	for _, g := range r.inFunction(i, api.NodeGoto) {
		if r.labelOf(g) < 0 {
			r.fail(g, api.ErrCheckLabel)
		}
	}
}

func (r *reading) labelOf(g int) int {
	for i, n := range r.nodes {
		if n.Kind == api.NodeLabel && n.Name == r.nodes[g].Name && r.functionOf(i) == r.functionOf(g) {
			return i
		}
	}
	return -1
}

func (r *reading) functions() []int {
	var l []int
	for i, n := range r.nodes {
		if n.Kind == api.NodeFunc {
			l = append(l, i)
		}
	}
	return l
}

func (r *reading) mainRow() {
	for _, f := range r.functions() {
		n := r.nodes[f]
		if n.Name != "main" {
			continue
		}
		if n.Type != api.TypeInt || len(n.Kids) > 1 {
			r.fail(f, api.ErrCheckMain)
		}
		return
	}
	panic(wrong{0, api.ErrCheckMain})
}
