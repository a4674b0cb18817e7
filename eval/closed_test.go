package eval_test

import (
	"fmt"
	"math/rand"
	"slices"
	"strings"
	"testing"

	"ndjq/api"
	"ndjq/check"
	"ndjq/desugar"
	"ndjq/eval"
	"ndjq/fprint"
	"ndjq/value"
)

func expectClosed(t *testing.T, f api.Filter, want bool, names ...string) {
	t.Helper()
	if got := eval.Closed(f, names); got != want {
		t.Errorf("Closed(%s) with %d names is %v", showFilter(f), len(names), got)
	}
}

func TestP15_1Texts(t *testing.T) {
	for _, x := range []struct {
		text  string
		names []string
		want  bool
	}{
		{".", nil, true}, {"$x", nil, false}, {"$x", []string{"x"}, true}, {"$x", []string{"y", "x", "y"}, true}, {"$x", []string{"$x"}, false}, {"1 as $x | $x", nil, true}, {"$x as $x | 1", nil, false}, {"(1 as $x | 2), $x", nil, false}, {"reduce 1 as $x (2; $x)", nil, true}, {"reduce $x as $x (2; 3)", nil, false}, {"reduce 1 as $x ($x; 3)", nil, false}, {"foreach 1 as $x (2; $x; $x)", nil, true}, {"foreach $x as $x (2; 3; 4)", nil, false}, {"foreach 1 as $x ($x; 3; 4)", nil, false}, {"(reduce 1 as $x (2; 3)), $x", nil, false},
		{"label $f | break $f", nil, true}, {"break $f", nil, false}, {"break $f", []string{"f"}, false}, {"label $f | $f", nil, false}, {"1 as $f | break $f", nil, false}, {"(label $f | 1), break $f", nil, false}, {"label $f | label $g | break $f", nil, true}, {"label $f | def f: break $f; f", nil, true},
		{"f", nil, false}, {"f", []string{"f"}, false}, {"def f: f; f", nil, true}, {"def f: f(1); f", nil, false}, {"def f(g): g; f(1)", nil, true}, {"def f(g): g; g", nil, false}, {"def f(g): g(1); f(1)", nil, false}, {"def f($g): $g; f(1)", nil, true}, {"def f($g): g; f(1)", nil, false}, {"def f(g): $g; f(1)", nil, false}, {"def f($g): 1; $g", nil, false}, {"def f(g): 1; f", nil, false}, {"def f: 1; f(1)", nil, false}, {"(def f: 1; 2), f", nil, false}, {"def f: g; def g: 1; f", nil, false}, {"def f(g; $h; i): [g, $h, i, f(1; 2; 3)]; f(.; .; .)", nil, true}, {"1 as $x | def f: $x; f", nil, true}, {"def f: $x; 1 as $x | f", nil, false},
		{"length", nil, true}, {"length(1)", nil, false}, {"map(.)", nil, false}, {"select(.), recurse, range(1)", nil, false}, {"def map(f): f; map(.)", nil, true}, {"error, error(1), empty, path(1), setpath(1; 2)", nil, true}, {"error(1; 2)", nil, false}, {".a", nil, false}, {"..", nil, false}, {".[0] = 1", nil, false}, {"inputs", nil, false}, {"reduce inputs as $x (0; . + $x)", nil, false}, {"[.a]", nil, false}, {"1 as $x | [..]", nil, false}, {"def f: .a; 1", nil, false}, {"def f: $x; 1", nil, false}, {"path(foo)", nil, false}, {"any, all, flatten(1)", nil, true}, {"any(1)", nil, false}, {"flatten", nil, false},
	} {
		expectClosed(t, unchecked(t, x.text), x.want, x.names...)
	}
}

// The texts of functions may be any strings, and the values of literals any valid values; everything else is as in chapter 12.
func TestP15_1Nodes(t *testing.T) {
	one := literal(num(1))
	long := strings.Repeat("n", api.MaxName)
	for _, s := range []string{"", "..", "|=", "a b", "\xff", "if", "inputs", "$x", "f/1", long + "n", strings.Repeat("é", 100000)} {
		expectClosed(t, call(s), false)
		expectClosed(t, call(s, one), false)
		expectClosed(t, def(s, "", one, call(s)), true)
		expectClosed(t, def(s, "a", one, call(s, one)), true)
		expectClosed(t, def(s, "a", one, call(s)), false)
		expectClosed(t, def(s, "a", one, call("a")), false)
		expectNode(t, def(s, "g", call("g"), call(s, one)), num(0), "1")
		if s != "if" && s != "inputs" {
			expectClosed(t, named(api.OpBind, s, one, dot), false)
			expectClosed(t, named(api.OpBind, s, one, variable(s)), false, s)
			expectClosed(t, variable(s), false, s)
			expectClosed(t, named(api.OpLabel, s, named(api.OpBreak, s)), false)
			expectClosed(t, named(api.OpReduce, s, one, one, one), false)
			expectClosed(t, named(api.OpForeach, s, one, one, one, one), false)
			expectClosed(t, api.Filter{Op: api.OpDef, Text: "f", Params: []string{s}, Subs: []api.Filter{dot, dot}}, s == "$x")
		}
	}
	for _, s := range []string{"x", "_", "if", "inputs", long} {
		expectClosed(t, named(api.OpBind, s, one, variable(s)), true)
		expectClosed(t, variable(s), true, s)
		expectClosed(t, named(api.OpLabel, s, named(api.OpBreak, s)), true)
		expectClosed(t, def("f", "$"+s, variable(s), dot), true)
		expectClosed(t, def("f", s, call(s), dot), s != "if")
	}
	expectClosed(t, def("f", "$"+long+"n", dot, dot), false)
	for _, v := range []api.Value{{}, num(1), num(-1), str("é"), str(strings.Repeat("x", api.MaxString)), arr(), arr(num(-1), arr()), obj(nil), obj([]string{"a", "b"}, num(1), arr()), deep(api.MaxDepth), wide(api.MaxNodes), {Kind: api.True, Keys: []string{}, Elems: []api.Value{}}} {
		expectClosed(t, literal(v), true)
		expectNode(t, literal(v), num(0), show(api.Outcome{Outs: []api.Value{v}}))
	}
	for _, v := range []api.Value{{Kind: 7}, {Kind: -1}, {Int: 1}, str("\xff"), str(strings.Repeat("x", api.MaxString+1)), deep(api.MaxDepth + 1), wide(api.MaxNodes + 1), obj([]string{"b", "a"}, num(1), num(2)), obj([]string{"a"}), arr(api.Value{Kind: 8})} {
		expectClosed(t, literal(v), false)
		expectClosed(t, n(api.OpComma, dot, n(api.OpArray, literal(v))), false)
	}
	for op := -1; op < 40; op++ {
		for size := range 8 {
			f := n(op, slices.Repeat([]api.Filter{dot}, size)...)
			switch op {
			case api.OpVar, api.OpReduce, api.OpForeach, api.OpLabel, api.OpBind, api.OpDef:
				f.Text = "x"
			case api.OpBinary:
				f.Text = "+"
			case api.OpUpdate:
				f.Text = "="
			case api.OpBreak:
				f.Text = "x"
				f = named(api.OpLabel, "x", f)
			case api.OpCall:
				f = def("x", strings.Repeat("p ", size), dot, call("x", f.Subs...))
			}
			expectClosed(t, f, statedClosed(f, []string{"x"}), "x")
			for _, damaged := range damages(f) {
				expectClosed(t, damaged, statedClosed(damaged, []string{"x"}), "x")
				inner := named(api.OpBind, "x", one, n(api.OpTry, dot, damaged))
				expectClosed(t, inner, statedClosed(inner, nil))
			}
		}
	}
}

// damages returns f with other fields.
func damages(f api.Filter) []api.Filter {
	l := slices.Repeat([]api.Filter{f}, 9)
	l[0].Text += "y"
	l[1].Text = ""
	l[2].Text = "x"
	l[3].Value = num(1)
	l[4].Params = []string{"a"}
	l[5].Params = []string{"a", "$if", "$"}
	l[6].Value = api.Value{Kind: 9}
	l[7].Subs = append(slices.Clone(f.Subs), n(0))
	l[8].Text = "<="
	return l
}

// statedClosed states when a filter is closed a second time.
func statedClosed(f api.Filter, names []string) bool {
	var all []string
	for _, s := range names {
		all = append(all, "$"+s)
	}
	return fprint.Printable(printableCopy(f)) && isKnown(f, all)
}

// printableCopy returns f with other functions and literals where closed filters may have any.
func printableCopy(f api.Filter) api.Filter {
	if f.Op == api.OpDef || f.Op == api.OpCall {
		f.Text = "f"
	}
	if f.Op == api.OpLiteral && value.Valid(f.Value) {
		f.Value = api.Value{}
	}
	f.Subs = slices.Clone(f.Subs)
	for i, sub := range f.Subs {
		f.Subs[i] = printableCopy(sub)
	}
	return f
}

// isKnown reports whether f consists of core nodes and uses the given names only.
func isKnown(f api.Filter, names []string) bool {
	used := ""
	switch f.Op {
	case api.OpField, api.OpRecurse, api.OpUpdate, api.OpInputs:
		return false
	case api.OpVar:
		used = "$" + f.Text
	case api.OpBreak:
		used = "label " + f.Text
	case api.OpCall:
		used = signature(f.Text, len(f.Subs))
		if statedBuiltins()[used] != nil || slices.Contains([]string{"empty/0", "error/0", "error/1", "path/1"}, used) {
			used = ""
		}
	}
	if used != "" && !slices.Contains(names, used) {
		return false
	}
	for i, sub := range f.Subs {
		if !isKnown(sub, append(slices.Clone(names), newNames(f, i)...)) {
			return false
		}
	}
	return true
}

func newNames(f api.Filter, i int) []string {
	key := fmt.Sprint(f.Op, " ", i)
	switch key {
	case fmt.Sprint(api.OpBind, " ", 1), fmt.Sprint(api.OpReduce, " ", 2), fmt.Sprint(api.OpForeach, " ", 2), fmt.Sprint(api.OpForeach, " ", 3):
		return []string{"$" + f.Text}
	case fmt.Sprint(api.OpLabel, " ", 0):
		return []string{"label " + f.Text}
	case fmt.Sprint(api.OpDef, " ", 1):
		return []string{signature(f.Text, len(f.Params))}
	case fmt.Sprint(api.OpDef, " ", 0):
		l := []string{signature(f.Text, len(f.Params))}
		for _, param := range f.Params {
			if strings.HasPrefix(param, "$") {
				l = append(l, param)
			} else {
				l = append(l, param+"/0")
			}
		}
		return l
	}
	return nil
}

// Nodes that are damaged, and nodes with names that may be unknown.
func TestP15_1RandomNodes(t *testing.T) {
	m := maker{rand.New(rand.NewSource(151))}
	found := map[bool]int{}
	for range 6000 {
		f := m.filter(m.r.Intn(4), names{vars: []string{"a"}, labels: []string{"a"}, funcs: []string{"f/0", "a/1"}}, false)
		g := &f
		for len(g.Subs) > 0 && m.r.Intn(4) > 0 {
			g = &g.Subs[m.r.Intn(len(g.Subs))]
		}
		switch m.r.Intn(8) {
		case 0:
			g.Op = m.r.Intn(30)
		case 1:
			g.Text = pick(m, []string{"", "..", "a", "b", "f", "length"})
		case 2:
			g.Params = pick(m, [][]string{nil, {"a"}, {"$"}, {"$a", "f"}, {"$if"}})
		case 3:
			g.Subs = append(g.Subs, dot)
		case 4:
			g.Subs = g.Subs[:len(g.Subs)/2]
		case 5:
			g.Value = pick(m, []api.Value{{}, num(1), {Kind: 9}})
		}
		f = named(api.OpLabel, "a", def("f", "", dot, def("a", "b", dot, f)))
		if m.r.Intn(6) == 0 {
			f = f.Subs[0]
		}
		for _, l := range [][]string{nil, {"a"}, {"b", "a", "a"}} {
			want := statedClosed(f, l)
			found[want]++
			expectClosed(t, f, want, l...)
		}
	}
	if found[true] < 2000 || found[false] < 2000 {
		t.Errorf("%d filters were closed, and %d were not", found[true], found[false])
	}
}

// The core of a filter that is well-formed and no fold is closed without names.
func TestP15_1CoresAreClosed(t *testing.T) {
	for _, s := range check.Builtins() {
		name, params, _ := strings.Cut(s, "/")
		f := call(name, slices.Repeat([]api.Filter{named(api.OpUpdate, "+=", named(api.OpField, "a", dot), n(api.OpRecurse))}, int(params[0]-'0'))...)
		core, _, e := desugar.Core(f)
		expectClosed(t, core, true)
		if params != "0" {
			expectClosed(t, f, false)
		}
		if e != api.OK {
			t.Errorf("%s: error %d", s, e)
		}
	}
	core, _, _ := desugar.Core(unchecked(t, "reduce inputs as $x (0; . + $x)"))
	expectClosed(t, core, false)
	expectClosed(t, core.Subs[2], true, "x")
	expectClosed(t, core.Subs[2], false)
	whole := dot
	needing := strings.Fields("+= -= *= /= %= nth any all with_entries map_values walk paths leaf_paths")
	for _, d := range slices.Backward(desugar.Prelude()) {
		expectClosed(t, d, !slices.Contains(needing, d.Text))
		whole = def(d.Text, strings.Join(d.Params, " "), d.Subs[0], whole)
	}
	expectClosed(t, whole, true)
}

// A node that contains itself is not closed, but the functions end.
func TestNodesInThemselves(t *testing.T) {
	for op := range 29 {
		for size := 1; size < 5; size++ {
			for place := range size {
				f := n(op, slices.Repeat([]api.Filter{dot}, size)...)
				f.Text = map[int]string{api.OpBinary: "+", api.OpUpdate: "=", api.OpCall: "has", api.OpDef: "f", api.OpReduce: "x", api.OpForeach: "x", api.OpLabel: "x", api.OpBind: "x"}[op]
				f.Subs[place] = f
				expectClosed(t, f, false)
			}
		}
	}
	f := n(api.OpComma, dot, dot)
	f.Subs[1] = n(api.OpTry, f)
	if o, e := eval.Eval(f, nil, nil, num(1), 5); e != api.ErrInvalid || !sameOutcome(o, api.Outcome{}) {
		t.Errorf("Eval of a node in itself: %s, error %d", show(o), e)
	}
	l := []api.Value{{}}
	v := arr(l...)
	v.Elems[0] = v
	expectClosed(t, literal(v), false)
	if _, e := eval.Visits(dot, nil, nil, v, 5); e != api.ErrInvalid {
		t.Errorf("Visits of a value in itself: error %d", e)
	}
}
