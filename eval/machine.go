package eval

import "ndjq/api"

// machine evaluates a node for one output after another. It keeps nothing on the stack of Go, so that evaluations may be nested as deeply as the fuel lets them.
//
// An evaluation has a frame that takes its outputs. An output is given to this frame at once; an evaluation that may have further ones leaves a frame on the stack, which is asked when everything above it is exhausted.
type machine struct {
	top *frame // of the stack
	// What is done next, and with what: node is evaluated on item in scope for the frame taker; item is given to taker; or item is an error.
	next  int
	node  *node
	scope *scope
	item  item
	taker *frame

	fuel, made int // visits that may be made, and that were made
	outs       []api.Value
	end        int
	err        api.Value
}

// What a machine does next.
const (
	evaluating = iota
	giving
	asking
	failing
	ended
)

func (m *machine) run() {
	for m.next != ended {
		m.step()
	}
}

func (m *machine) step() {
	switch m.next {
	case evaluating:
		if m.visit() {
			m.evaluate()
		}
	case giving:
		m.taker.take(m, m.item)
	case asking:
		m.top.ask(m)
	case failing:
		m.top.catch(m, m.item.value)
	}
}

// visit makes a visit, or ends the whole and returns false if the fuel is used up.
func (m *machine) visit() bool {
	if m.made == m.fuel {
		m.finish(api.EndFuel, api.Value{})
		return false
	}
	m.made++
	return true
}

func (m *machine) finish(end int, err api.Value) {
	m.next, m.end, m.err = ended, end, err
}

// start lets n be evaluated next.
func (m *machine) start(n *node, s *scope, in item, taker *frame) {
	m.next, m.node, m.scope, m.item, m.taker = evaluating, n, s, in, taker
}

// give lets an output be taken next.
func (m *machine) give(out item, taker *frame) {
	m.next, m.item, m.taker = giving, out, taker
}

// ask lets the frame on top of the stack be asked next.
func (m *machine) ask() {
	m.next = asking
}

// fail lets the error w be caught next.
func (m *machine) fail(w api.Value) {
	m.next, m.item = failing, item{value: w}
}

// failWith is fail for the error of another layer.
func (m *machine) failWith(e api.Errno) {
	m.fail(message(e))
}

// answer gives the result of a function of another layer.
func (m *machine) answer(v api.Value, e api.Errno, taker *frame) {
	if e != api.OK {
		m.failWith(e)
		return
	}
	m.give(item{value: v}, taker)
}

func (m *machine) push(f *frame) *frame {
	f.below = m.top
	m.top = f
	return f
}

func (m *machine) pop() {
	m.top = m.top.below
}

// frame returns a frame for the node that is evaluated.
func (m *machine) frame(kind int) *frame {
	return &frame{kind: kind, node: m.node, scope: m.scope, in: m.item, taker: m.taker}
}

// evaluate begins the evaluation of the node, for which a visit has been made.
func (m *machine) evaluate() {
	n, s, in, taker := m.node, m.scope, m.item, m.taker
	if in.path != nil && !n.denotesPaths() {
		m.failWith(api.ErrPath)
		return
	}
	switch n.op {
	case api.OpIdentity:
		m.give(in, taker)
	case api.OpLiteral:
		m.give(item{value: n.value}, taker)
	case api.OpVar:
		m.give(item{value: s.around(n.hops).value}, taker)
	case api.OpBreak:
		// Everything above the frame of the label belongs to its evaluation.
		m.top = s.around(n.hops).label.below
		m.ask()
	case api.OpDef:
		m.start(&n.subs[1], s, in, taker)
	case api.OpPipe:
		m.start(&n.subs[0], s, in, m.frame(piping))
	case api.OpComma:
		m.push(m.frame(choosing))
		m.start(&n.subs[0], s, in, taker)
	case api.OpLabel:
		f := m.push(m.frame(labelled))
		m.start(&n.subs[0], &scope{outer: s, label: f}, in, taker)
	case api.OpTry:
		m.start(&n.subs[0], s, in, m.push(m.frame(trying)))
	case api.OpAlt:
		m.start(&n.subs[0], s, in, m.push(m.frame(preferring)))
	case api.OpArray:
		m.collect()
	case api.OpOr, api.OpAnd, api.OpIf:
		m.start(&n.subs[0], s, in.plain(), m.frame(deciding))
	case api.OpBind:
		m.start(&n.subs[0], s, in.plain(), m.frame(binding))
	case api.OpReduce, api.OpForeach:
		m.start(&n.subs[1], s, in, m.frame(initial))
	case api.OpCall:
		m.call()
	default:
		m.frame(gathering).gather(m)
	}
}

func (m *machine) collect() {
	f := m.push(m.frame(collecting))
	f.held.path = &list{}
	if len(f.node.subs) == 0 {
		m.ask()
		return
	}
	m.start(&f.node.subs[0], f.scope, f.in, f)
}

// call begins the evaluation of an OpCall.
func (m *machine) call() {
	n, s, in, taker := m.node, m.scope, m.item, m.taker
	switch n.callee {
	case callFunction:
		f := m.frame(passing)
		f.inner = s.around(n.hops)
		f.pass(m)
	case callParameter:
		p := s.around(n.hops)
		m.start(p.arg, p.home, in, taker)
	case callEmpty:
		m.ask()
	case callError:
		if len(n.subs) == 0 {
			m.fail(in.value)
			return
		}
		m.start(&n.subs[0], s, in.plain(), m.frame(raising))
	case callPath:
		m.start(&n.subs[0], s, item{value: in.value, path: &list{}}, m.frame(tracing))
	default:
		m.frame(gathering).gather(m)
	}
}
