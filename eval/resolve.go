package eval

import (
	"strings"

	"ndjq/api"
	"ndjq/fprint"
	"ndjq/value"
)

const (
	// maxLevel is the nesting up to which the document promises anything, and room for the definitions that desugar.Core puts around a filter. An argument that contains itself goes beyond it.
	maxLevel = 1<<16 + 1<<8
	// maxSubs is the greatest number of elements of a node that has a fixed number of them.
	maxSubs = 4
)

// node is a node of a closed filter in which the names are resolved.
type node struct {
	op     int
	text   string    // the operator of OpBinary, the name of a builtin
	value  api.Value // of OpLiteral
	subs   []node
	params []bool   // of OpDef: which parameters are values
	hops   int      // of OpVar, OpBreak and OpCall: how many scopes lie around that of the node up to the one that is meant
	callee int      // of OpCall: what is called
	def    *node    // the OpDef of a function
	apply  function // of a builtin
}

// What an OpCall calls.
const (
	callFunction = iota
	callParameter
	callBuiltin
	callEmpty
	callError
	callPath
)

// Kinds of names.
const (
	variable = iota
	label
	callable
)

type name struct {
	kind   int
	text   string
	params int // of a function
}

// meaning is what a name means: it lies in the scope with the given number, counted from the outermost one.
type meaning struct {
	scope int
	def   *node // of a function that is no parameter
}

// resolver visits the nodes of a filter.
type resolver struct {
	known  map[name][]meaning // the last one of a name counts
	scopes int                // the number of scopes around the node that is visited
}

// resolve returns f with the names resolved, and whether f is closed for names. The result shares no memory with f.
func resolve(f api.Filter, names []string) (*node, bool) {
	// First without building anything, as an argument that contains itself would need much memory.
	if !isCore(&f, 0) {
		return nil, false
	}
	r := resolver{known: map[name][]meaning{}}
	for _, text := range names {
		r.enter([]name{{variable, text, 0}})
	}
	root := &node{}
	if !r.visit(&f, root) {
		return nil, false
	}
	return root, true
}

// isCore reports whether f, which lies within level nodes, is closed if its names are known.
func isCore(f *api.Filter, level int) bool {
	if level > maxLevel || !fits(*f) {
		return false
	}
	for i := range f.Subs {
		if !isCore(&f.Subs[i], level+1) {
			return false
		}
	}
	return true
}

// fits reports whether f is a node of the core and printable, apart from its elements and from what closed filters may have instead.
func fits(f api.Filter) bool {
	switch f.Op {
	case api.OpRecurse, api.OpField, api.OpUpdate, api.OpInputs:
		return false
	case api.OpLiteral:
		if !value.Valid(f.Value) {
			return false
		}
		f.Value = api.Value{}
	case api.OpDef, api.OpCall:
		f.Text = "f"
	case api.OpObject:
		f.Subs = f.Subs[:len(f.Subs)%2]
	}
	simple := [maxSubs + 1]api.Filter{{Op: api.OpIdentity}, {Op: api.OpIdentity}, {Op: api.OpIdentity}, {Op: api.OpIdentity}, {Op: api.OpIdentity}}
	f.Subs = simple[:min(len(f.Subs), len(simple))]
	return fprint.Printable(f)
}

// visit makes n the node f with the names resolved, and reports whether all of them are known.
func (r *resolver) visit(f *api.Filter, n *node) bool {
	*n = node{op: f.Op, text: f.Text, value: clone(f.Value), subs: make([]node, len(f.Subs))}
	for _, param := range f.Params {
		n.params = append(n.params, strings.HasPrefix(param, "$"))
	}
	if !r.use(n) {
		return false
	}
	if f.Op == api.OpDef {
		own := name{callable, f.Text, len(f.Params)}
		// It needs no scope of its own, as it is called in the one around its definition.
		r.know(own, meaning{r.scopes, n})
		defer r.forget(own)
	}
	for i := range f.Subs {
		names := introduced(f, i)
		r.enter(names)
		if !r.visit(&f.Subs[i], &n.subs[i]) {
			return false
		}
		r.leave(names)
	}
	return true
}

// introduced returns the names that f introduces for its element i, each with a scope of its own.
func introduced(f *api.Filter, i int) []name {
	switch {
	case f.Op == api.OpBind && i == 1, f.Op == api.OpReduce && i == 2, f.Op == api.OpForeach && i >= 2:
		return []name{{variable, f.Text, 0}}
	case f.Op == api.OpLabel:
		return []name{{label, f.Text, 0}}
	case f.Op == api.OpDef && i == 0:
		return parameters(f.Params)
	}
	return nil
}

func parameters(params []string) []name {
	var names []name
	for _, param := range params {
		if text, isValue := strings.CutPrefix(param, "$"); isValue {
			names = append(names, name{variable, text, 0})
		} else {
			names = append(names, name{callable, param, 0})
		}
	}
	return names
}

// enter enters a scope for each of the names, the last one innermost.
func (r *resolver) enter(names []name) {
	for _, x := range names {
		r.scopes++
		r.know(x, meaning{scope: r.scopes})
	}
}

func (r *resolver) leave(names []name) {
	for _, x := range names {
		r.scopes--
		r.forget(x)
	}
}

func (r *resolver) know(x name, m meaning) {
	r.known[x] = append(r.known[x], m)
}

// forget takes the last meaning of x away.
func (r *resolver) forget(x name) {
	r.known[x] = r.known[x][:len(r.known[x])-1]
}

// use resolves the name that n uses, and reports whether it is known.
func (r *resolver) use(n *node) bool {
	x := name{text: n.text}
	switch n.op {
	case api.OpVar:
		x.kind = variable
	case api.OpBreak:
		x.kind = label
	case api.OpCall:
		x.kind, x.params = callable, len(n.subs)
	default:
		return true
	}
	l := r.known[x]
	if len(l) == 0 {
		return x.kind == callable && n.useBuiltin()
	}
	last := l[len(l)-1]
	n.hops = r.scopes - last.scope
	n.def = last.def
	if last.def == nil {
		n.callee = callParameter
	}
	return true
}

// useBuiltin makes the OpCall n a call of a builtin, and reports whether there is one with its name and number of parameters.
func (n *node) useBuiltin() bool {
	switch {
	case n.text == "empty" && len(n.subs) == 0:
		n.callee = callEmpty
	case n.text == "error" && len(n.subs) <= 1:
		n.callee = callError
	case n.text == "path" && len(n.subs) == 1:
		n.callee = callPath
	default:
		n.callee = callBuiltin
		n.apply = builtin(n.text, len(n.subs))
		return n.apply != nil
	}
	return true
}

// isStep reports whether n makes a step into the outputs of its first element.
func (n *node) isStep() bool {
	return n.op == api.OpIndex || n.op == api.OpSlice || n.op == api.OpIterate
}

// denotesPaths reports whether n is evaluated in the path mode.
func (n *node) denotesPaths() bool {
	switch n.op {
	case api.OpLiteral, api.OpVar, api.OpArray, api.OpObject, api.OpNeg, api.OpOr, api.OpAnd, api.OpBinary:
		return false
	case api.OpCall:
		return n.callee != callPath && (n.callee != callBuiltin || n.text == "getpath")
	}
	return true
}
