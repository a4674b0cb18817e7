package eval

import "ndjq/api"

// Machine is an evaluation that can be interrupted before each visit: a stack of frames, and what is done next. It keeps nothing on the stack of Go, so that it can be continued by another call, and evaluations may be nested as deeply as the fuel lets them. A zero or nil machine has ended.
//
// An evaluation of a node has a frame that takes its outputs. An output is given to this frame at once; an evaluation that may have further ones leaves a frame on the stack, which is asked when everything above it is exhausted.
type Machine struct {
	top *frame // of the stack
	// What is done next, and with what: node is evaluated on item in scope for the frame taker; item is given to taker; or item is an error.
	next  int
	node  *node
	scope *scope
	item  item
	taker *frame

	fuel, made int  // visits that may be made, and that were made
	allowed    int  // visits that may be made before it pauses
	paused     bool // it has made them and is to make another one
	outs       []api.Value
	end        int
	err        api.Value
}

// What a machine does next.
const (
	ended = iota
	evaluating
	giving
	asking
	failing
)

// Advance continues the evaluation until n more visits have been made and another one is to be made, or it ends, and returns the outputs that it yields meanwhile.
func (m *Machine) Advance(n int) []api.Value {
	if m.Ended() || n < 1 {
		return nil
	}
	m.run(n)
	outs := clones(m.outs)
	m.outs = nil
	return outs
}

// Ended reports whether the evaluation has ended.
func (m *Machine) Ended() bool {
	return m == nil || m.next == ended
}

// Outcome returns how the evaluation has ended, and with which error.
func (m *Machine) Outcome() (int, api.Value) {
	if m == nil {
		return api.EndDone, api.Value{}
	}
	return m.end, clone(m.err)
}

// Made returns the number of visits that were made.
func (m *Machine) Made() int {
	if m == nil {
		return 0
	}
	return m.made
}

// run continues the evaluation as Advance does. With all of the fuel, it ends.
func (m *Machine) run(n int) {
	m.allowed = m.made + min(n, m.fuel-m.made)
	for m.paused = false; m.next != ended && !m.paused; {
		m.step()
	}
}

func (m *Machine) step() {
	switch m.next {
	case evaluating:
		if m.visit() {
			m.evaluate()
		}
	case giving:
		m.taker.take(m, m.item)
	case asking:
		m.top.ask(m)
	case failing:
		m.top.catch(m, m.item.value)
	}
}

// visit makes a visit, or returns false: it ends the whole if the fuel is used up, and otherwise pauses if no more visits are allowed. After a pause, the same is done again.
func (m *Machine) visit() bool {
	switch m.made {
	case m.fuel:
		m.finish(api.EndFuel, api.Value{})
		return false
	case m.allowed:
		m.paused = true
		return false
	}
	m.made++
	return true
}

// finish ends the whole, and lets go of what only a further visit would need.
func (m *Machine) finish(end int, err api.Value) {
	*m = Machine{next: ended, made: m.made, outs: m.outs, end: end, err: err}
}

// start lets n be evaluated next.
func (m *Machine) start(n *node, s *scope, in item, taker *frame) {
	m.next, m.node, m.scope, m.item, m.taker = evaluating, n, s, in, taker
}

// give lets an output be taken next.
func (m *Machine) give(out item, taker *frame) {
	m.next, m.item, m.taker = giving, out, taker
}

// ask lets the frame on top of the stack be asked next.
func (m *Machine) ask() {
	m.next = asking
}

// fail lets the error w be caught next.
func (m *Machine) fail(w api.Value) {
	m.next, m.item = failing, item{value: w}
}

// failWith is fail for the error of another layer.
func (m *Machine) failWith(e api.Errno) {
	m.fail(message(e))
}

// answer gives the result of a function of another layer.
func (m *Machine) answer(v api.Value, e api.Errno, taker *frame) {
	if e != api.OK {
		m.failWith(e)
		return
	}
	m.give(item{value: v}, taker)
}

func (m *Machine) push(f *frame) *frame {
	f.below = m.top
	m.top = f
	return f
}

func (m *Machine) pop() {
	m.top = m.top.below
}

// frame returns a frame for the node that is evaluated.
func (m *Machine) frame(kind int) *frame {
	return &frame{kind: kind, node: m.node, scope: m.scope, in: m.item, taker: m.taker}
}

// evaluate begins the evaluation of the node, for which a visit has been made.
func (m *Machine) evaluate() {
	n, s, in, taker := m.node, m.scope, m.item, m.taker
	if in.path != nil && !n.denotesPaths() {
		m.failWith(api.ErrPath)
		return
	}
	switch n.op {
	case api.OpIdentity:
		m.give(in, taker)
	case api.OpLiteral:
		m.give(item{value: n.value}, taker)
	case api.OpVar:
		m.give(item{value: s.around(n.hops).value}, taker)
	case api.OpBreak:
		// Everything above the frame of the label belongs to its evaluation.
		m.top = s.around(n.hops).label.below
		m.ask()
	case api.OpDef:
		m.start(&n.subs[1], s, in, taker)
	case api.OpPipe:
		m.start(&n.subs[0], s, in, m.frame(piping))
	case api.OpComma:
		m.push(m.frame(choosing))
		m.start(&n.subs[0], s, in, taker)
	case api.OpLabel:
		f := m.push(m.frame(labelled))
		m.start(&n.subs[0], &scope{outer: s, label: f}, in, taker)
	case api.OpTry:
		m.start(&n.subs[0], s, in, m.push(m.frame(trying)))
	case api.OpAlt:
		m.start(&n.subs[0], s, in, m.push(m.frame(preferring)))
	case api.OpArray:
		m.collect()
	case api.OpOr, api.OpAnd, api.OpIf:
		m.start(&n.subs[0], s, in.plain(), m.frame(deciding))
	case api.OpBind:
		m.start(&n.subs[0], s, in.plain(), m.frame(binding))
	case api.OpReduce, api.OpForeach:
		m.start(&n.subs[1], s, in, m.frame(initial))
	case api.OpCall:
		m.call()
	default:
		m.frame(gathering).gather(m)
	}
}

func (m *Machine) collect() {
	f := m.push(m.frame(collecting))
	f.held.path = &list{}
	if len(f.node.subs) == 0 {
		m.ask()
		return
	}
	m.start(&f.node.subs[0], f.scope, f.in, f)
}

// call begins the evaluation of an OpCall.
func (m *Machine) call() {
	n, s, in, taker := m.node, m.scope, m.item, m.taker
	switch n.callee {
	case callFunction:
		f := m.frame(passing)
		f.inner = s.around(n.hops)
		f.pass(m)
	case callParameter:
		p := s.around(n.hops)
		m.start(p.arg, p.home, in, taker)
	case callEmpty:
		m.ask()
	case callError:
		if len(n.subs) == 0 {
			m.fail(in.value)
			return
		}
		m.start(&n.subs[0], s, in.plain(), m.frame(raising))
	case callPath:
		m.start(&n.subs[0], s, item{value: in.value, path: &list{}}, m.frame(tracing))
	default:
		m.frame(gathering).gather(m)
	}
}
