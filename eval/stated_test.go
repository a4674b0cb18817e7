package eval_test

import (
	"math/rand"
	"slices"
	"strconv"
	"strings"
	"testing"

	"ndjq/api"
	"ndjq/check"
	"ndjq/desugar"
	"ndjq/eval"
	"ndjq/fparse"
	"ndjq/fprint"
	"ndjq/jsonparse"
)

// names are those that are known where a node stands. The functions are given as "name/n".
type names struct{ vars, labels, funcs []string }

func (k names) withVar(s string) names {
	k.vars = append(slices.Clone(k.vars), s)
	return k
}

func (k names) withLabel(s string) names {
	k.labels = append(slices.Clone(k.labels), s)
	return k
}

func (k names) withFunc(name string, params int) names {
	k.funcs = append(slices.Clone(k.funcs), signature(name, params))
	return k
}

func (k names) withParams(l []string) names {
	for _, s := range l {
		if text, isValue := strings.CutPrefix(s, "$"); isValue {
			k = k.withVar(text)
		} else {
			k = k.withFunc(s, 0)
		}
	}
	return k
}

// maker makes random closed nodes.
type maker struct{ r *rand.Rand }

func pick[T any](m maker, l []T) T { return l[m.r.Intn(len(l))] }

func (m maker) value() api.Value {
	return pick(m, []api.Value{{}, {Kind: api.False}, {Kind: api.True}, num(0), num(1), num(2), num(3), num(-1), str("a"), str("b"), str("ab"), arr(), arr(num(1), num(2)), arr(str("a")), arr(str("a"), num(0)), obj(nil), obj([]string{"a"}, num(1)), obj([]string{"a", "b"}, arr(num(5)), obj([]string{"a"}, num(2))), obj([]string{"end", "start"}, num(2), api.Value{})})
}

// leaf returns a node without elements, or a call with the simplest ones.
func (m maker) leaf(k names, inPaths bool) api.Filter {
	for {
		switch m.r.Intn(8) {
		case 0:
			return dot
		case 1, 2:
			if !inPaths {
				return literal(m.value())
			}
		case 3:
			if len(k.vars) > 0 && !inPaths {
				return variable(pick(m, k.vars))
			}
		case 4:
			if len(k.labels) > 0 && m.r.Intn(3) == 0 {
				return named(api.OpBreak, pick(m, k.labels))
			}
		case 5:
			if len(k.funcs) > 0 {
				return m.call(pick(m, k.funcs), func() api.Filter { return dot })
			}
		case 6:
			if m.r.Intn(4) == 0 {
				return call(pick(m, []string{"empty", "error"}))
			}
		case 7:
			if !inPaths {
				return pick(m, []api.Filter{n(api.OpArray), n(api.OpObject), call("length"), call("not"), call("type"), call("keys"), call("add")})
			}
		}
	}
}

// call returns a call of a function that is given as "name/n".
func (m maker) call(what string, arg func() api.Filter) api.Filter {
	i := strings.LastIndexByte(what, '/')
	count, _ := strconv.Atoi(what[i+1:])
	f := call(what[:i])
	for range count {
		f.Subs = append(f.Subs, arg())
	}
	return f
}

// filter returns a node of about the given depth that is closed for the names. In the path mode it is mostly one that denotes paths.
func (m maker) filter(depth int, k names, inPaths bool) api.Filter {
	f := m.inner(depth, k, inPaths)
	switch f.Op {
	case api.OpIndex, api.OpSlice, api.OpIterate, api.OpObject, api.OpNeg, api.OpBinary, api.OpCall:
		// Otherwise most evaluations end with an error at once.
		if m.r.Intn(4) > 0 {
			return n(api.OpTry, f)
		}
	}
	return f
}

func (m maker) inner(depth int, k names, inPaths bool) api.Filter {
	if depth == 0 || m.r.Intn(8) == 0 {
		return m.leaf(k, inPaths && m.r.Intn(12) > 0)
	}
	sub := func() api.Filter { return m.filter(depth-1, k, inPaths) }
	plain := func() api.Filter { return m.filter(depth-1, k, false) }
	with := func(k names) api.Filter { return m.filter(depth-1, k, inPaths) }
	name := pick(m, []string{"a", "b", "c"})
	choice := m.r.Intn(28)
	if inPaths && choice >= 18 && m.r.Intn(8) > 0 {
		choice = m.r.Intn(18)
	}
	switch choice {
	case 0:
		return n(api.OpIndex, sub(), pick(m, []api.Filter{plain(), literal(str("a")), literal(num(0))}))
	case 1:
		return n(api.OpSlice, sub(), pick(m, []api.Filter{plain(), literal(num(0))}), pick(m, []api.Filter{plain(), literal(api.Value{})}))
	case 2:
		return n(api.OpIterate, sub())
	case 3, 4:
		return n(api.OpPipe, sub(), sub())
	case 5, 6, 26, 27:
		return n(api.OpComma, sub(), sub())
	case 7:
		return n(api.OpAlt, sub(), sub())
	case 8:
		return n(api.OpIf, plain(), sub(), sub())
	case 9:
		return n(api.OpTry, sub())
	case 10:
		return n(api.OpTry, sub(), sub())
	case 11:
		return named(api.OpReduce, name, plain(), sub(), with(k.withVar(name)))
	case 12:
		return named(api.OpForeach, name, plain(), sub(), with(k.withVar(name)), with(k.withVar(name)))
	case 13:
		return named(api.OpLabel, name, with(k.withLabel(name)))
	case 14:
		return named(api.OpBind, name, plain(), with(k.withVar(name)))
	case 15, 16:
		return m.def(depth, k, inPaths)
	case 17:
		if len(k.funcs) > 0 && m.r.Intn(4) > 0 {
			return m.call(pick(m, k.funcs), sub)
		}
		return call(pick(m, []string{"getpath", "error", "getpath"}), plain())
	}
	return m.pathless(choice, plain, sub)
}

// pathless returns a node that does not denote paths.
func (m maker) pathless(choice int, plain, sub func() api.Filter) api.Filter {
	switch choice {
	case 18:
		return n(api.OpArray, plain())
	case 19:
		return n(api.OpObject, pick(m, []api.Filter{literal(str("a")), plain()}), plain(), pick(m, []api.Filter{literal(str("b")), plain()}), plain())
	case 20:
		return n(api.OpNeg, plain())
	case 21:
		return n(api.OpOr, plain(), plain())
	case 22:
		return n(api.OpAnd, plain(), plain())
	case 23:
		return named(api.OpBinary, pick(m, []string{"+", "-", "==", "<", "*", "/"}), plain(), plain())
	case 24:
		return call(pick(m, []string{"has", "contains", "sort_keys", "delpaths", "flatten"}), plain())
	}
	path := call("path", m.pathArg(sub))
	return pick(m, []api.Filter{path, path, call("setpath", path, plain()), call("getpath", path)})
}

func (m maker) pathArg(sub func() api.Filter) api.Filter {
	f := sub()
	if m.r.Intn(3) == 0 {
		f = n(api.OpComma, n(api.OpIterate, dot), f)
	}
	return f
}

func (m maker) def(depth int, k names, inPaths bool) api.Filter {
	name := pick(m, []string{"a", "f", "..", "length", "empty"})
	f := api.Filter{Op: api.OpDef, Text: name}
	for range m.r.Intn(4) {
		f.Params = append(f.Params, pick(m, []string{"a", "b", "$a", "$b"}))
	}
	rest := k.withFunc(name, len(f.Params))
	body := rest.withParams(f.Params)
	if m.r.Intn(3) > 0 {
		// Recursion is rarer than a random choice makes it.
		body = k.withParams(f.Params)
	}
	f.Subs = []api.Filter{m.filter(depth-1, body, inPaths), m.filter(depth-1, rest, inPaths)}
	if m.r.Intn(2) == 0 {
		f.Subs[1] = m.call(signature(name, len(f.Params)), func() api.Filter { return m.filter(depth-1, rest, inPaths) })
	}
	return f
}

func (m maker) input() api.Value {
	return pick(m, []api.Value{m.value(), m.value(), arr(m.value(), m.value(), m.value()), obj([]string{"a", "b"}, m.value(), m.value())})
}

func TestP15_2RandomNodes(t *testing.T) {
	m := maker{rand.New(rand.NewSource(152))}
	ends := map[int]int{}
	several, paths := 0, 0
	for range 25000 {
		l, values := []string{"a", "b", "a"}, []api.Value{m.value(), m.value(), m.value()}
		f := m.filter(1+m.r.Intn(6), names{vars: []string{"a", "b"}}, false)
		if m.r.Intn(3) == 0 {
			f = call("path", m.pathArg(func() api.Filter { return m.filter(1+m.r.Intn(6), names{vars: []string{"a", "b"}}, true) }))
		}
		v, fuel := m.input(), pick(m, []int{400, 400, 50, m.r.Intn(30)})
		expectStated(t, f, l, values, v, fuel)
		o, _ := eval.Eval(f, l, values, v, fuel)
		ends[o.End]++
		if len(o.Outs) > 1 {
			several++
			if f.Op == api.OpCall {
				paths++
			}
		}
	}
	if ends[api.EndDone] < 5000 || ends[api.EndError] < 2000 || ends[api.EndFuel] < 1000 || several < 3000 || paths < 500 {
		t.Errorf("%v, %d evaluations with several outputs, %d of them of paths", ends, several, paths)
	}
}

// Each node of two levels, with each of some elements.
func TestP15_2SmallNodes(t *testing.T) {
	leaves := []api.Filter{literal(num(1)), literal(api.Value{}), dot, variable("x"), named(api.OpBreak, "l"), call("empty"), call("error"), n(api.OpIterate, dot), n(api.OpComma, dot, literal(num(2)))}
	for op := 1; op < 29; op++ {
		for size := range 5 {
			f := n(op, make([]api.Filter, size)...)
			f.Text = map[int]string{api.OpBinary: "+", api.OpReduce: "x", api.OpForeach: "x", api.OpLabel: "l", api.OpBind: "x", api.OpDef: "empty", api.OpCall: []string{"error", "path", "setpath", "", ""}[size]}[op]
			// Without the first ones for the greatest nodes, which are OpForeach.
			expectAll(t, f, 0, leaves[max(0, size-3)*3:])
		}
	}
}

// expectAll expects what is stated of f with all combinations of the leaves for its elements from i on.
func expectAll(t *testing.T, f api.Filter, i int, leaves []api.Filter) {
	t.Helper()
	if i < len(f.Subs) {
		for _, f.Subs[i] = range leaves {
			expectAll(t, f, i+1, leaves)
		}
		return
	}
	outer := named(api.OpLabel, "l", n(api.OpPipe, n(api.OpComma, dot, n(api.OpIterate, dot)), n(api.OpTry, f, n(api.OpArray, dot))))
	if !eval.Closed(outer, []string{"x"}) {
		return
	}
	for _, v := range []api.Value{num(3), arr(num(4), arr()), obj([]string{"a"}, api.Value{})} {
		expectStated(t, outer, []string{"x"}, []api.Value{str("a")}, v, 200)
		if len(f.Subs) < 4 {
			expectStated(t, call("path", outer), []string{"x"}, []api.Value{num(0)}, v, 200)
		}
	}
}

// texts are filters with functions of the prelude, in which F and G stand for others.
func texts() []string {
	return []string{
		"map(F)", "select(F)", "[recurse(F)]", "[..] | F", "F |= G", "F += G", "F = G", ".[] *= F", "del(F)", "[limit(2; F)]", "first(F)", "last(F)", "nth(1; F)", "isempty(F)", "any(F)", "all(F)", "[range(3)] | F", "[range(1; F)]", "[while(F; G)]", "until(F; G)", "[limit(3; repeat(F))]", "to_array", "with_entries(F)", "map_values(F)", "sort_by(F)", "group_by(F)", "unique_by(F)", "min_by(F)", "max_by(F)",
		"walk(F)", "[paths]", "[leaf_paths]", "inside(F)", "[combinations]", "in(F)", "flatten", "path(F)", "[F]", "F as $x | G", "reduce F as $x (.; G)", "foreach F as $x (.; G)", "try F catch G", "label $l | F, break $l, G", "def f(g): g | g; f(F)", "(F) // (G)", "if F then G else . end", "{a: (F), b: (G)}", "(F) + (G)", ".[(F)]", "(F)[]", "(F) | (G)", "(F), (G)", "-(F)", "(F) and (G)", "(F) or (G)",
	}
}

func (m maker) text(depth int) string {
	if depth == 0 {
		return pick(m, []string{".", ".a", ".[]", ".[0]", "1", "2", "null", `"a"`, "empty", "error", ".b", ".[]?", ".a?", "not", "length", ". == 1", ". + 1", ". < 2", "[.]"})
	}
	s := pick(m, texts())
	return strings.NewReplacer("F", m.text(depth-1), "G", m.text(m.r.Intn(depth))).Replace(s)
}

func TestP15_2RandomTexts(t *testing.T) {
	m := maker{rand.New(rand.NewSource(153))}
	ends := map[int]int{}
	made := 0
	for range 3000 {
		f, _, e := fparse.Parse(m.text(1 + m.r.Intn(3)))
		if e != api.OK {
			continue
		}
		f, _, e = desugar.Core(f)
		if e != api.OK {
			continue
		}
		made++
		v, fuel := m.input(), pick(m, []int{1000, 200})
		expectStated(t, f, nil, nil, v, fuel)
		o, _ := eval.Eval(f, nil, nil, v, fuel)
		ends[o.End]++
	}
	if made < 2500 || ends[api.EndDone] < 1000 || ends[api.EndError] < 700 || ends[api.EndFuel] < 40 {
		t.Errorf("%d evaluations: %v", made, ends)
	}
}

// With more fuel, the outputs are continued; the outputs are at most as many as the visits.
func TestConsequenceFuel(t *testing.T) {
	m := maker{rand.New(rand.NewSource(154))}
	for range 1500 {
		f, v := m.filter(1+m.r.Intn(4), names{}, false), m.input()
		if visits, _ := eval.Visits(f, nil, nil, v, api.MaxFuel); visits < 300 {
			expectFuels(t, f, v)
		}
	}
}

// What does not occur in the error path of a try is not evaluated.
func TestConsequenceTry(t *testing.T) {
	m := maker{rand.New(rand.NewSource(155))}
	kept := 0
	for range 3000 {
		f, v := m.filter(1+m.r.Intn(3), names{}, false), m.input()
		alone, _ := eval.Eval(f, nil, nil, v, 1000)
		visits, _ := eval.Visits(f, nil, nil, v, 1000)
		if alone.End != api.EndDone || visits == 1000 {
			continue
		}
		kept++
		caught := n(api.OpTry, f, call("error", literal(str("not evaluated"))))
		o, _ := eval.Eval(caught, nil, nil, v, 1001)
		made, _ := eval.Visits(caught, nil, nil, v, 1001)
		if !sameOutcome(o, alone) || made != visits+1 {
			t.Errorf("%s: %s in %d visits, but %s in %d with a try", showFilter(f), show(alone), visits, show(o), made)
		}
	}
	if kept < 800 {
		t.Errorf("%d evaluations ended without an error", kept)
	}
}

// FuzzEval runs on its seeds with go test, and goes on from them with go test -fuzz.
func FuzzEval(f *testing.F) {
	m := maker{rand.New(rand.NewSource(156))}
	for range 300 {
		f.Add(m.text(2), pick(m, []string{"null", "[1,2]", `{"a":[1,{"b":2}]}`, `"ab"`}), 200)
		f.Add(fprint.Print(m.filter(3, names{}, false)), "[1,[2],null]", 200)
	}
	f.Fuzz(func(t *testing.T, text, input string, fuel int) {
		g, _, e := fparse.Parse(text)
		if _, c := check.Check(g); e != api.OK || c != api.OK {
			return
		}
		v, _, e := jsonparse.Parse(input)
		core, _, _ := desugar.Core(g)
		if !eval.Closed(core, nil) || e != api.OK {
			return
		}
		expectStated(t, core, nil, nil, v, int(uint(fuel)%1000))
	})
}
