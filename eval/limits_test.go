package eval_test

import (
	"slices"
	"strconv"
	"strings"
	"testing"

	"ndjq/api"
	"ndjq/eval"
	"ndjq/value"
)

const limit = `!"limit exceeded"`

// deep returns a value that is nested in n arrays.
func deep(n int) api.Value {
	v := num(1)
	for range n {
		v = arr(v)
	}
	return v
}

// wide returns an array with the given number of nodes, itself included.
func wide(nodes int) api.Value {
	var l []api.Value
	for nodes--; nodes > 0; {
		size := min(nodes, 1000)
		l = append(l, arr(slices.Repeat([]api.Value{{}}, size-1)...))
		nodes -= size
	}
	return arr(l...)
}

func long(bytes int) api.Value { return str(strings.Repeat("x", bytes)) }

func longs(count int) []api.Value { return slices.Repeat([]api.Value{long(api.MaxString)}, count) }

// numbered returns n keys with the given number of bytes in ascending order.
func numbered(n, bytes int) []string {
	var keys []string
	for i := range n {
		keys = append(keys, strconv.Itoa(10000+i)+strings.Repeat("k", bytes-5))
	}
	return keys
}

// expectEnd expects one output, or the error that a limit is exceeded.
func expectEnd(t *testing.T, text string, v api.Value, isOutput bool) {
	t.Helper()
	f := core(t, text)
	o, e := eval.Eval(f, nil, nil, v, api.MaxFuel)
	if e != api.OK || isOutput && (len(o.Outs) != 1 || o.End != api.EndDone) || !isOutput && show(o) != limit {
		t.Errorf("%s of %d elements and %d nodes: %s, error %d", text, len(v.Elems), value.Nodes(v), brief(show(o)), e)
	}
	for _, out := range o.Outs {
		if !value.Valid(out) {
			t.Errorf("%s of %d elements yields a value that is not valid", text, len(v.Elems))
		}
	}
	expectStated(t, f, nil, nil, v, api.MaxFuel)
}

func TestP15_2LimitsOfArrays(t *testing.T) {
	elems := func(n int) api.Value { return arr(slices.Repeat([]api.Value{num(1)}, n)...) }
	const full = api.MaxElems
	expectEnd(t, "[.[]]", elems(full), true)
	expectEnd(t, "[.[], 1]", elems(full-1), true)
	expectEnd(t, "[.[], 1]", elems(full), false)
	expectEnd(t, "[1, .[]]", elems(full), false)
	expectEnd(t, "[.]", deep(api.MaxDepth-1), true)
	expectEnd(t, "[1, ., 1]", deep(api.MaxDepth-1), true)
	expectEnd(t, "[.]", deep(api.MaxDepth), false)
	expectEnd(t, "[1, .[0], .]", deep(api.MaxDepth), false)
	expectEnd(t, "[[.]]", deep(api.MaxDepth-1), false)
	expectEnd(t, "[.]", arr(deep(api.MaxDepth-2), arr(), arr(num(1))), true)
	expectEnd(t, "[.]", arr(deep(api.MaxDepth-1), arr(), arr(num(1))), false)
	expectEnd(t, "[1, .]", obj([]string{"a", "b"}, deep(api.MaxDepth-1), num(1)), false)
	expectEnd(t, "[[], .]", deep(api.MaxDepth-1), true)
	expectEnd(t, "[.]", wide(api.MaxNodes-1), true)
	expectEnd(t, "[.]", wide(api.MaxNodes), false)
	expectEnd(t, "[., 1]", wide(api.MaxNodes-2), true)
	expectEnd(t, "[., 1]", wide(api.MaxNodes-1), false)
	expectEnd(t, "[1, .]", wide(api.MaxNodes-1), false)
	expectEnd(t, "[., .]", wide(api.MaxNodes/2-1), true)
	expectEnd(t, "[., .]", wide(api.MaxNodes/2), false)
	expectEnd(t, "[{a: 1}, .]", wide(api.MaxNodes-3), true)
	expectEnd(t, "[{a: 1}, .]", wide(api.MaxNodes-2), false)
	const strs = api.MaxBytes / api.MaxString
	expectEnd(t, "[.[]]", arr(longs(strs)...), true)
	expectEnd(t, `[.[], ""]`, arr(longs(strs)...), true)
	expectEnd(t, `[.[], "x"]`, arr(longs(strs)...), false)
	expectEnd(t, `["x", .]`, arr(longs(strs)...), false)
	expectEnd(t, `[.[], {x: 1}]`, arr(longs(strs)...), false)
	expectEnd(t, `[.[], [["é"]]]`, arr(append(longs(strs-1), long(api.MaxString-2))...), true)
	expectEnd(t, `[.[], [["é"]]]`, arr(append(longs(strs-1), long(api.MaxString-1))...), false)
	expectEnd(t, "[.]", obj(numbered(strs, api.MaxString), slices.Repeat([]api.Value{{}}, strs)...), true)
	expectEnd(t, `[., "x"]`, obj(numbered(strs, api.MaxString), slices.Repeat([]api.Value{{}}, strs)...), false)
	// The array of an array that is too great is the one that fails.
	expectEnd(t, `try [.[], 1] catch [., 2]`, elems(full), true)
	expectEnd(t, "[.[], 1, error]", elems(full), false)
}

// An array fails with the first output with which it is not valid, and an object with its last member.
func TestP15_2LimitsAreFoundAtOnce(t *testing.T) {
	full := arr(slices.Repeat([]api.Value{num(1)}, api.MaxElems)...)
	for _, x := range []struct {
		text   string
		v      api.Value
		visits int
	}{
		{"[.[], 1, error]", full, 6 + api.MaxElems}, {"[., 1, error]", deep(api.MaxDepth), 4}, {"[1, ., error]", deep(api.MaxDepth), 5}, {"[., ., error]", wide(api.MaxNodes / 2), 5}, {"{a: ., b: 1}", deep(api.MaxDepth), 5}, {"{a: ., b: (1, error)}", deep(api.MaxDepth), 6},
	} {
		f := core(t, x.text)
		if visits := expectNode(t, f, x.v, limit); visits != x.visits {
			t.Errorf("%s makes %d visits, not %d", x.text, visits, x.visits)
		}
	}
	expectNode(t, core(t, "{a: ., b: error(5)}"), deep(api.MaxDepth), "!5")
	expectNode(t, core(t, "{a: ., (1): 5}"), deep(api.MaxDepth), `!"type error"`)
	expectNode(t, core(t, "{a: ., b: empty}"), deep(api.MaxDepth), "")
}

func TestP15_2LimitsOfObjects(t *testing.T) {
	expectEnd(t, "{a: .}", deep(api.MaxDepth-1), true)
	expectEnd(t, "{a: .}", deep(api.MaxDepth), false)
	expectEnd(t, "{a: ., a: 1}", deep(api.MaxDepth), true)
	expectEnd(t, "{a: 1, a: .}", deep(api.MaxDepth), false)
	expectEnd(t, "{a: .}", wide(api.MaxNodes-1), true)
	expectEnd(t, "{a: ., b: 1}", wide(api.MaxNodes-1), false)
	strs := arr(append(longs(api.MaxBytes/api.MaxString-1), long(api.MaxString-1))...)
	expectEnd(t, "{a: .}", strs, true)
	expectEnd(t, "{ab: .}", strs, false)
	expectEnd(t, `{"": ., a: ""}`, strs, true)
	expectEnd(t, `{"": ., a: "x"}`, strs, false)
	var subs []api.Filter
	for _, key := range numbered(api.MaxElems, 10) {
		subs = append(subs, literal(str(key)), dot)
	}
	o, e := eval.Eval(n(api.OpObject, subs...), nil, nil, num(1), api.MaxFuel)
	if e != api.OK || len(o.Outs) != 1 || len(o.Outs[0].Keys) != api.MaxElems {
		t.Errorf("the greatest object: %s, error %d", brief(show(o)), e)
	}
	expectNode(t, n(api.OpObject, append(subs, literal(str("z")), dot)...), num(1), limit)
	expectStated(t, n(api.OpObject, append(subs, subs[0], literal(num(2)))...), nil, nil, num(1), api.MaxFuel)
}

func TestP15_2LimitsOfPaths(t *testing.T) {
	full := arr(slices.Repeat([]api.Value{num(0)}, api.MaxElems)...)
	most := arr(full.Elems[:api.MaxElems-1]...)
	for _, x := range []struct {
		text string
		p    api.Value
		want bool
	}{
		{"getpath($p)", full, true}, {"getpath($p) | .[0]", most, true}, {"getpath($p) | .[0]", full, false}, {"getpath($p) | .a", full, false}, {"getpath($p) | .[1:]", full, false}, {"getpath($p) | getpath([1])", full, false}, {"getpath($p) | getpath([])", full, true}, {".[0] | getpath($p)", full, false}, {".[0] | getpath($p)", most, true}, {"getpath($p) | getpath($p)", full, false}, {"getpath($p) | .", full, true},
		{"getpath($p) | .a", arr(longs(api.MaxBytes / api.MaxString)...), false}, {`getpath($p) | .""`, arr(longs(api.MaxBytes / api.MaxString)...), true}, {"getpath($p) | .[0]", arr(longs(api.MaxBytes / api.MaxString)...), true}, {"getpath($p) | .[1:]", arr(longs(api.MaxBytes / api.MaxString)...), false}, {"getpath($p) | .abc", arr(append(longs(api.MaxBytes/api.MaxString-1), long(api.MaxString-3))...), true}, {"getpath($p) | .abcd", arr(append(longs(api.MaxBytes/api.MaxString-1), long(api.MaxString-3))...), false},
	} {
		f := unchecked(t, "path("+x.text+")")
		core := withoutFields(f)
		o, e := eval.Eval(core, []string{"p"}, []api.Value{x.p}, api.Value{}, api.MaxFuel)
		if e != api.OK || x.want && (o.End != api.EndDone || len(o.Outs) != 1 || !value.Valid(o.Outs[0])) || !x.want && show(o) != limit {
			t.Errorf("path(%s) for a path of %d steps: %s, error %d", x.text, len(x.p.Elems), brief(show(o)), e)
		}
		expectStated(t, core, []string{"p"}, []api.Value{x.p}, api.Value{}, api.MaxFuel)
	}
	// The error of path.Step comes first.
	for _, s := range []string{".[true]", ".[{}]", ".[[]]", ".[]", "getpath([null])", "getpath(1)"} {
		expectWith(t, unchecked(t, "path(getpath($p) | "+s+")"), []string{"p"}, []api.Value{full}, api.Value{}, api.MaxFuel, `!"type error"`)
	}
	// Slices of an array may be taken as often as a path has room for them. The visit before an element is made before its path.
	slicing := func(count, rest string) api.Filter {
		return core(t, "[1] | path(reduce range("+count+") as $i (.; .[0:]) | "+rest+")")
	}
	for _, x := range []struct {
		count, rest string
		isOutput    bool
	}{
		{"1023", ".[]", true}, {"1024", ".", true}, {"1024", ".[]", false}, {"1023", ".[0:]", true}, {"1023", ".[0:][0:]", false}, {"1024", ".[0]", false}, {"1024", ".[0]?", true}, {"1024", ".[true]", true}, {"1000", ".[0]", true},
	} {
		f := slicing(x.count, x.rest)
		o, e := eval.Eval(f, nil, nil, api.Value{}, api.MaxFuel)
		if e != api.OK || x.isOutput == (show(o) == limit) {
			t.Errorf("%s slices and %s: %s, error %d", x.count, x.rest, brief(show(o)), e)
		}
		expectStated(t, f, nil, nil, api.Value{}, api.MaxFuel)
	}
}

// withoutFields returns f with OpIndex in the place of OpField, but without definitions of the prelude.
func withoutFields(f api.Filter) api.Filter {
	out := f
	out.Subs = nil
	for _, sub := range f.Subs {
		out.Subs = append(out.Subs, withoutFields(sub))
	}
	if f.Op == api.OpField {
		return n(api.OpIndex, out.Subs[0], literal(str(f.Text)))
	}
	return out
}

// nested returns f with others around it, of which wrap makes the one that is given the levels within it.
func nested(levels int, f api.Filter, wrap func(level int, f api.Filter) api.Filter) api.Filter {
	for level := range levels {
		f = wrap(level, f)
	}
	return f
}

func name(level int) string { return "x" + strconv.Itoa(level) }

// As many levels of nesting as the document names are evaluated. The fuel is enough for all but those that make two visits on each level.
func TestP15_2LevelsOfNesting(t *testing.T) {
	one := literal(num(1))
	for _, x := range []struct {
		what  string
		wrap  func(i int, f api.Filter) api.Filter
		inner api.Filter
		want  string
	}{
		{"neg", func(_ int, f api.Filter) api.Filter { return n(api.OpNeg, f) }, one, "1"},
		{"body", func(i int, f api.Filter) api.Filter { return def(name(i), "a $b", one, f) }, dot, "0"},
		{"label", func(i int, f api.Filter) api.Filter { return named(api.OpLabel, name(i), f) }, named(api.OpBreak, name(500)), ""},
		{"try", func(_ int, f api.Filter) api.Filter { return n(api.OpTry, f) }, call("error"), ""},
		{"try and catch", func(_ int, f api.Filter) api.Filter { return n(api.OpTry, f, call("error")) }, call("error"), "!0"},
		{"comma", func(_ int, f api.Filter) api.Filter { return n(api.OpComma, f, one) }, call("error"), "!0"},
		{"or", func(_ int, f api.Filter) api.Filter { return n(api.OpOr, f, call("error")) }, one, "true"},
		{"and", func(_ int, f api.Filter) api.Filter { return n(api.OpAnd, f, call("error")) }, literal(api.Value{}), "false"},
		{"alternative", func(_ int, f api.Filter) api.Filter { return n(api.OpAlt, f, call("error")) }, one, "1"},
		{"array", func(_ int, f api.Filter) api.Filter { return n(api.OpArray, f) }, one, limit},
		{"parameter", func(_ int, f api.Filter) api.Filter { return call("error", f) }, one, "!1"},
		{"path", func(_ int, f api.Filter) api.Filter { return call("path", f) }, dot, `!"path error"`},
		{"pipe", func(_ int, f api.Filter) api.Filter { return n(api.OpPipe, f, call("error")) }, call("empty"), ""},
		{"slice", func(_ int, f api.Filter) api.Filter { return n(api.OpSlice, f, one, one) }, one, `!"type error"`},
		{"update", func(i int, f api.Filter) api.Filter { return named(api.OpReduce, name(i), one, f, dot) }, call("empty"), ""},
	} {
		expectNode(t, nested(1000, x.inner, x.wrap), num(0), x.want)
		want := x.want
		switch x.what {
		case "neg":
			want = "-1"
		case "try and catch":
			want = ".."
		}
		const levels = 1<<16 - 1
		if o, e := eval.Eval(nested(levels, x.inner, x.wrap), nil, nil, num(0), api.MaxFuel); e != api.OK || show(o) != want {
			t.Errorf("%d levels of %s: %s, error %d", levels, x.what, brief(show(o)), e)
		}
	}
}

// Variables and functions are known on all levels below, and the innermost ones count.
func TestP15_2LevelsOfScopes(t *testing.T) {
	one := literal(num(1))
	for _, levels := range []int{1, 1000, 10000} {
		bind := func(i int, f api.Filter) api.Filter {
			return named(api.OpBind, name(i), literal(num(int64(i))), f)
		}
		for _, i := range []int{0, levels / 2, levels - 1} {
			expectNode(t, nested(levels, variable(name(i)), bind), num(0), strconv.Itoa(i))
		}
		same := func(i int, f api.Filter) api.Filter {
			return named(api.OpBind, "x", literal(num(int64(i))), f)
		}
		expectNode(t, nested(levels, variable("x"), same), num(0), "0")
		body := func(i int, f api.Filter) api.Filter { return def(name(i), "", f, call(name(i))) }
		expectNode(t, nested(levels, one, body), num(0), "1")
		expectClosed(t, nested(levels, call(name(0), one), body), false)
		expectClosed(t, nested(levels, call(name(levels-1)), body), true)
		expectClosed(t, nested(levels, variable("x"), body), false)
		expectClosed(t, nested(levels, variable("x"), body), true, "x")
		rest := func(i int, f api.Filter) api.Filter { return def(name(i), "$a", variable("a"), f) }
		expectNode(t, nested(levels, call(name(0), one), rest), num(0), "1")
		expectNode(t, nested(levels, call(name(levels-1), one), rest), num(0), "1")
		expectClosed(t, nested(levels, variable("a"), rest), false)
	}
}

// All variables may be used by a node that lies deeply in them.
func TestP15_2ManyVariables(t *testing.T) {
	const count = 20000
	f := call("empty")
	var names []string
	var values []api.Value
	for i := range count {
		names, values = append(names, name(i)), append(values, num(int64(i)))
		f = n(api.OpComma, variable(name(i)), f)
	}
	o, e := eval.Eval(f, names, values, api.Value{}, api.MaxFuel)
	if e != api.OK || len(o.Outs) != count || o.End != api.EndDone {
		t.Fatalf("%d outputs, end %d, error %d", len(o.Outs), o.End, e)
	}
	for i, v := range o.Outs {
		if !identical(v, num(int64(count-1-i))) {
			t.Fatalf("output %d is %d", i, v.Int)
		}
	}
	expectClosed(t, f, false, names[1:]...)
}

// Objects and calls may have many elements.
func TestP15_2ManyElements(t *testing.T) {
	members := func(count int) api.Filter {
		var subs []api.Filter
		for i := range count {
			subs = append(subs, literal(str("k")), literal(num(int64(i))))
		}
		return n(api.OpObject, subs...)
	}
	expectNode(t, members(1000), num(0), `{"k":999}`)
	for count, want := range map[int]string{30000: `{"k":29999}`, 60000: ".."} {
		if o, e := eval.Eval(members(count), nil, nil, num(0), api.MaxFuel); e != api.OK || show(o) != want {
			t.Errorf("an object with %d members: %s, error %d", count, show(o), e)
		}
	}
	expectClosed(t, n(api.OpObject, members(30000).Subs[1:]...), false)
	params := strings.Fields("$a b $c d $e f $g h")
	body := n(api.OpArray, n(api.OpComma, n(api.OpComma, variable("a"), call("h")), variable("g")))
	args := slices.Repeat([]api.Filter{dot}, len(params))
	expectNode(t, def("f", strings.Join(params, " "), body, call("f", args...)), num(5), "[5,5,5]")
	expectClosed(t, def("f", "a b c d e f g h i", dot, dot), false)
	expectClosed(t, def("f", strings.Join(params, " "), dot, call("f", append(args, dot)...)), false)
	expectClosed(t, call("f", slices.Repeat([]api.Filter{dot}, 100000)...), false)
}
