package eval

import (
	"ndjq/api"
	"ndjq/arith"
	"ndjq/path"
	"ndjq/value"
)

// frame is a part of an evaluation of a node. It takes the outputs of an element of the node, lies on the stack, or does both.
type frame struct {
	kind  int
	node  *node
	scope *scope
	in    item   // the input of the node
	taker *frame // takes the outputs of the node
	below *frame // on the stack

	held  item   // what was taken last, or a state
	other *frame // a frame of the same node that this one needs
	inner *scope // the scope of a function that is called
	index int    // of an element of the node, or of held
	found bool   // preferring: there was a truthy output
}

// Kinds of frames.
const (
	bottom     = iota // the end of the stack, which takes the outputs of the whole
	piping            // OpPipe: takes the inputs of element 1
	choosing          // OpComma: asked for the outputs of element 1
	labelled          // OpLabel: marks how far a break goes down
	trying            // OpTry: catches the errors of element 0
	preferring        // OpAlt: takes the outputs of element 0, and catches its errors
	leaving           // OpTry, OpAlt: lies between the evaluation of element 0 and the consumer of its output
	collecting        // OpArray
	deciding          // OpOr, OpAnd, OpIf: takes the outputs of element 0
	judging           // OpOr, OpAnd: takes the outputs of element 1
	binding           // OpBind: takes the values of the variable
	initial           // OpReduce, OpForeach: takes the states at first
	reducing          // OpReduce: takes the values of the variable, and has the state
	updating          // OpReduce: takes the outputs of element 2
	advancing         // OpForeach: takes the values of the variable, and has the state
	extracting        // OpForeach: takes the outputs of element 2
	gathering         // nodes that are evaluated for each combination of the outputs of their elements
	iterating         // OpIterate: asked for the elements
	passing           // OpCall: takes the values of a parameter with a dollar sign
	raising           // OpCall of error: takes the error
	tracing           // OpCall of path: takes the outputs with their paths
)

// take takes an output.
func (f *frame) take(m *Machine, out item) {
	switch f.kind {
	case bottom:
		m.outs = append(m.outs, out.value)
		m.ask()
	case piping:
		m.start(&f.node.subs[1], f.scope, out, f.taker)
	case trying:
		f.leave(m, out)
	case preferring:
		f.prefer(m, out)
	case collecting:
		f.collect(m, out)
	case deciding:
		f.decide(m, truthy(out.value))
	case judging:
		m.give(item{value: value.Bool(truthy(out.value))}, f.taker)
	case binding:
		m.start(&f.node.subs[1], f.scope.withValue(out.value), f.in, f.taker)
	case initial:
		f.beginState(m, out)
	case reducing:
		f.update(m, out.value)
	case updating:
		f.held = out
		m.ask()
	case advancing:
		f.advance(m, out.value)
	case extracting:
		f.other.held = out
		m.start(&f.node.subs[3], f.scope, out, f.taker)
	case gathering:
		f.gatherNext(m, out)
	case passing:
		f.passNext(m, out.value)
	case raising:
		m.fail(out.value)
	case tracing:
		m.give(item{value: out.path.array()}, f.taker)
	}
}

// ask asks a frame on top of the stack for the next output.
func (f *frame) ask(m *Machine) {
	if f.kind == iterating {
		f.iterate(m)
		return
	}
	m.pop()
	switch f.kind {
	case bottom:
		m.finish(api.EndDone, api.Value{})
	case choosing:
		m.start(&f.node.subs[1], f.scope, f.in, f.taker)
	case preferring:
		f.preferNext(m)
	case collecting:
		m.give(item{value: f.held.path.array()}, f.taker)
	case reducing:
		m.give(f.held, f.taker)
	case updating:
		f.other.held = f.held
	}
	// The others have no further outputs, so the frame below is asked.
}

// catch lets a frame on top of the stack catch the error w, or leaves it to the frame below.
func (f *frame) catch(m *Machine, w api.Value) {
	m.pop()
	switch f.kind {
	case bottom:
		m.finish(api.EndError, w)
	case trying:
		f.recover(m, w)
	case preferring:
		f.preferNext(m)
	case leaving:
		// The error is one of the consumer, so the evaluation that yielded the output is abandoned.
		m.top = f.other.below
	}
}

// leave gives an output of element 0 to the consumer, whose errors do not concern f.
func (f *frame) leave(m *Machine, out item) {
	m.push(&frame{kind: leaving, other: f})
	m.give(out, f.taker)
}

// recover goes on behind an error of element 0 of an OpTry.
func (f *frame) recover(m *Machine, w api.Value) {
	if len(f.node.subs) < 2 {
		m.ask()
		return
	}
	m.start(&f.node.subs[1], f.scope, f.in.like(w), f.taker)
}

func (f *frame) prefer(m *Machine, out item) {
	if !truthy(out.value) {
		m.ask()
		return
	}
	f.found = true
	f.leave(m, out)
}

// preferNext goes on behind the outputs of element 0 of an OpAlt.
func (f *frame) preferNext(m *Machine) {
	if f.found {
		m.ask()
		return
	}
	m.start(&f.node.subs[1], f.scope, f.in, f.taker)
}

func (f *frame) collect(m *Machine, out item) {
	longer, ok := f.held.path.with(out.value)
	if !ok {
		m.failWith(api.ErrLimit)
		return
	}
	f.held.path = longer
	m.ask()
}

// decide goes on behind an output of element 0 of an OpOr, OpAnd or OpIf.
func (f *frame) decide(m *Machine, isTrue bool) {
	switch {
	case f.node.op == api.OpIf && isTrue:
		m.start(&f.node.subs[1], f.scope, f.in, f.taker)
	case f.node.op == api.OpIf:
		m.start(&f.node.subs[2], f.scope, f.in, f.taker)
	case isTrue == (f.node.op == api.OpOr):
		m.give(item{value: value.Bool(isTrue)}, f.taker)
	default:
		later := *f
		later.kind = judging
		m.start(&f.node.subs[1], f.scope, f.in, &later)
	}
}

// beginState begins an OpReduce or OpForeach with the state s.
func (f *frame) beginState(m *Machine, s item) {
	later := *f
	later.held = s
	if f.node.op == api.OpReduce {
		later.kind = reducing
		m.push(&later)
	} else {
		later.kind = advancing
	}
	m.start(&f.node.subs[0], f.scope, f.in.plain(), &later)
}

// update begins the update of the state of an OpReduce.
func (f *frame) update(m *Machine, x api.Value) {
	u := m.push(&frame{kind: updating, held: f.in.like(api.Value{}), other: f})
	m.start(&f.node.subs[2], f.scope.withValue(x), f.held, u)
}

// advance begins the update of the state of an OpForeach.
func (f *frame) advance(m *Machine, x api.Value) {
	later := *f
	later.kind, later.scope, later.other = extracting, f.scope.withValue(x), f
	m.start(&f.node.subs[2], later.scope, f.held, &later)
}

// gather evaluates the next element of the node, or the node for the outputs of all its elements.
func (f *frame) gather(m *Machine) {
	if f.index == len(f.node.subs) {
		f.combine(m, f.gathered())
		return
	}
	in := f.in
	if f.index > 0 || !f.node.isStep() {
		in = in.plain()
	}
	m.start(&f.node.subs[f.index], f.scope, in, f)
}

// gatherNext goes on with an output of the element.
func (f *frame) gatherNext(m *Machine, out item) {
	if f.node.op == api.OpObject && f.index%2 == 0 && out.value.Kind != api.String {
		m.failWith(api.ErrType)
		return
	}
	// A copy, as f may take further outputs.
	later := *f
	later.held, later.other = out, f
	later.index++
	later.gather(m)
}

// gathered returns the outputs of all elements.
func (f *frame) gathered() []item {
	l := make([]item, f.index)
	for ; f.index > 0; f = f.other {
		l[f.index-1] = f.held
	}
	return l
}

// combine evaluates the node for the outputs of its elements.
func (f *frame) combine(m *Machine, l []item) {
	switch f.node.op {
	case api.OpIndex:
		f.step(m, l[0], l[1].value)
	case api.OpSlice:
		s, e := path.SliceStep(l[1].value, l[2].value)
		if e != api.OK {
			m.failWith(e)
			return
		}
		f.step(m, l[0], s)
	case api.OpIterate:
		f.enter(m, l[0])
	case api.OpNeg:
		v, e := arith.Neg(l[0].value)
		m.answer(v, e, f.taker)
	case api.OpBinary:
		v, e := arith.Binary(f.node.text, l[0].value, l[1].value)
		m.answer(v, e, f.taker)
	case api.OpObject:
		f.build(m, l)
	case api.OpCall:
		f.apply(m, l)
	}
}

// step gives the part of x that the step s denotes.
func (f *frame) step(m *Machine, x item, s api.Value) {
	v, e := path.Step(x.value, s)
	if e != api.OK {
		m.failWith(e)
		return
	}
	f.reach(m, x, v, s)
}

// reach gives v, to which the steps lead from x.
func (f *frame) reach(m *Machine, x item, v api.Value, steps ...api.Value) {
	out, ok := x.extended(v, steps...)
	if !ok {
		m.failWith(api.ErrLimit)
		return
	}
	m.give(out, f.taker)
}

// enter begins with the elements of x.
func (f *frame) enter(m *Machine, x item) {
	if x.value.Kind != api.Array && x.value.Kind != api.Object {
		m.failWith(api.ErrType)
		return
	}
	m.push(&frame{kind: iterating, held: x, taker: f.taker})
	m.ask()
}

// iterate gives the next element.
func (f *frame) iterate(m *Machine) {
	if f.index == len(f.held.value.Elems) {
		m.pop()
		return
	}
	if !m.visit() {
		return
	}
	i := f.index
	f.index++
	f.reach(m, f.held, f.held.value.Elems[i], place(f.held.value, i))
}

// build gives the object whose keys and values are in l by turns.
func (f *frame) build(m *Machine, l []item) {
	var keys []string
	var elems []api.Value
	for i := 0; i < len(l); i += 2 {
		keys = append(keys, l[i].value.Str)
		elems = append(elems, l[i+1].value)
	}
	v, e := value.Obj(keys, elems)
	m.answer(v, e, f.taker)
}

// apply gives the result of a builtin.
func (f *frame) apply(m *Machine, l []item) {
	var args []api.Value
	for _, x := range l {
		args = append(args, x.value)
	}
	v, e := f.node.apply(f.in.value, args)
	if e != api.OK {
		m.failWith(e)
		return
	}
	if f.in.path != nil {
		// Only getpath comes here in the path mode.
		f.reach(m, f.in, v, args[0].Elems...)
		return
	}
	m.give(item{value: v}, f.taker)
}

// pass evaluates the next parameter with a dollar sign of the function that is called, or its body.
func (f *frame) pass(m *Machine) {
	def := f.node.def
	for f.index < len(def.params) {
		arg := &f.node.subs[f.index]
		if def.params[f.index] {
			m.start(arg, f.scope, f.in.plain(), f)
			return
		}
		f.inner = &scope{outer: f.inner, arg: arg, home: f.scope}
		f.index++
	}
	m.start(&def.subs[0], f.inner, f.in, f.taker)
}

// passNext goes on with a value of the parameter.
func (f *frame) passNext(m *Machine, x api.Value) {
	// A copy, as f may take further values.
	later := *f
	later.inner = f.inner.withValue(x)
	later.index++
	later.pass(m)
}
