package check

import (
	"fmt"
	"slices"
	"strings"
	"testing"

	"ndjq/api"
	"ndjq/fparse"
)

// The nodes of the tests are written with these functions, or as texts.

func n(op int, subs ...api.Filter) api.Filter {
	return api.Filter{Op: op, Subs: subs}
}

func named(op int, name string, subs ...api.Filter) api.Filter {
	return api.Filter{Op: op, Text: name, Subs: subs}
}

func call(name string, l ...api.Filter) api.Filter { return named(api.OpCall, name, l...) }

func def(name, params string, body, rest api.Filter) api.Filter {
	return api.Filter{Op: api.OpDef, Text: name, Params: strings.Fields(params), Subs: []api.Filter{body, rest}}
}

var (
	dot    = n(api.OpIdentity)
	inputs = n(api.OpInputs)
	null   = n(api.OpLiteral)
)

func brief(s string) string {
	if len(s) > 300 {
		return fmt.Sprintf("%q.. of %d bytes", s[:300], len(s))
	}
	return fmt.Sprintf("%q", s)
}

func show(f api.Filter) string { return brief(fmt.Sprintf("%+v", f)) }

func showPlace(l []int) string { return brief(fmt.Sprint(l)) }

// expect expects that Check returns the given error and the place with the given indexes.
func expect(t *testing.T, f api.Filter, want api.Errno, place ...int) {
	t.Helper()
	if got, e := Check(f); e != want || !slices.Equal(got, place) {
		t.Errorf("Check(%s) = %s, error %d, not %s, error %d", show(f), showPlace(got), e, showPlace(place), want)
	}
}

func parse(t *testing.T, s string) api.Filter {
	t.Helper()
	f, at, e := fparse.Parse(s)
	if e != api.OK {
		t.Fatalf("Parse(%s): error %d at %d", brief(s), e, at)
	}
	return f
}

// known expects that the texts are well-formed.
func known(t *testing.T, l ...string) {
	t.Helper()
	for _, s := range l {
		if place, e := Check(parse(t, s)); e != api.OK || len(place) > 0 {
			t.Errorf("Check of %s = %v, error %d", s, place, e)
		}
	}
}

// finding is a text, and the place of its error.
type finding struct {
	text  string
	place []int
}

func expectAll(t *testing.T, want api.Errno, l []finding) {
	t.Helper()
	for _, x := range l {
		if place, e := Check(parse(t, x.text)); e != want || !slices.Equal(place, x.place) {
			t.Errorf("Check of %s = %v, error %d, not %v, error %d", x.text, place, e, x.place, want)
		}
	}
}

func TestExamples(t *testing.T) {
	known(t, ". as $x | $x", "def f(g): g; f(f(1))", "reduce inputs as $x (0; . + $x)")
	expectAll(t, api.ErrName, []finding{{"$x | . as $x | .", []int{0}}, {"foo", nil}, {"[inputs]", []int{0}}})
	expectAll(t, api.ErrArity, []finding{{"map", nil}, {"def f: f(1); f", []int{0}}})
}

// Each row of the chapter's table: the element of Subs that is in the scope, and the others, which are not.
func TestP13_1Scopes(t *testing.T) {
	known(t,
		". as $x | $x", ". as $x | [$x, {a: -$x}]", ". as $x | . as $y | $x + $y", ". as $x | $x as $x | $x", ". as $if | $if",
		"reduce . as $x (0; $x)", "reduce . as $x (0; . + $x)",
		"foreach . as $x (0; $x)", "foreach . as $x (0; $x; .)", "foreach . as $x (0; .; $x)", "foreach . as $x (0; $x; [$x])",
		"label $x | break $x", "label $x | . as $x | $x, break $x", "label $x | label $y | break $x, break $y", "label $if | break $if",
		"def f: f; 1", "def f: 1; f", "def f: f; f", "def f: def g: f; g; f", "def f(g): f(g); f(1)", "def f(g; $h): f(f(g; $h); g); f(1; 2)",
		"def f($x): $x; f(1)", "def f($x; $if): [$x, $if]; f(1; 2)", "def f(g): g; f(.)", "def f(g; $x; h): g, $x, h; f(1; 2; 3)",
	)
	expectAll(t, api.ErrName, []finding{
		{"$x", nil}, {"break $x", nil}, {"f", nil}, {"f(1)", nil}, {"[$x]", []int{0}}, {"[break $x]", []int{0}}, {"[f]", []int{0}},
		{"$x as $x | 1", []int{0}}, {". as $x | $y", []int{1}}, {"(. as $x | .) | $x", []int{1}},
		{"reduce $x as $x (0; 1)", []int{0}}, {"reduce . as $x ($x; 1)", []int{1}}, {"reduce . as $x (0; $y)", []int{2}}, {"(reduce . as $x (0; .)) | $x", []int{1}},
		{"foreach $x as $x (0; 1; 2)", []int{0}}, {"foreach . as $x ($x; 1; 2)", []int{1}}, {"foreach . as $x (0; $y; 1)", []int{2}}, {"foreach . as $x (0; 1; $y)", []int{3}}, {"[(foreach . as $x (0; .)), $x]", []int{0, 1}},
		{"label $x | break $y", []int{0}}, {"(label $x | .) | break $x", []int{1}}, {"label $x | $x", []int{0}}, {". as $x | break $x", []int{1}}, {"label $x | x", []int{0}},
		{"(def f: 1; f) | f", []int{1}}, {"def f: g; def g: 1; f", []int{0}}, {"def f: 1; g", []int{1}}, {"def f: 1; $f", []int{1}}, {"def f: $f; 1", []int{0}}, {"def f: break $f; 1", []int{0}},
		{"def f($x): 1; $x", []int{1}}, {"def f(g): 1; g", []int{1}}, {"def f($x): x; f(1)", []int{0}}, {"def f(g): $g; f(1)", []int{0}}, {"def f(g): break $g; f(1)", []int{0}}, {"def f($x): 1; f($x)", []int{1, 0}}, {"def f(g): 1; f(g)", []int{1, 0}},
	})
}

// A function is known by its name and its number of parameters.
func TestP13_1Arity(t *testing.T) {
	known(t,
		"def f: 1; def f(g): 2; def f(g; h): 3; f, f(1), f(1; 2)", "def f(f): f, f(f); f(1)", "def f(f; g): f, f(f; g); f(1; 2)", "def f(g; g; $g): g, $g; f(1; 2; 3)", "def f(f; $f): f; f(1; 2)",
		"def map: 1; map, map(.)", "def map(a; b): 1; map(.), map(1; 2)", "def f(map): map, map(map); f(1)", "def f: 1; def g: def f(a): 2; f, f(1); g", "range(1), range(1; 2), error, error(1), recurse, recurse(.)",
		"def f(a; b; c; d; e; f; g; h): f, f(1; 2; 3; 4; 5; 6; 7; 8); 1", "def inputs(a): 1; inputs(1)",
	)
	expectAll(t, api.ErrArity, []finding{
		{"map", nil}, {"map(1; 2)", nil}, {"length(1)", nil}, {"empty(1)", nil}, {"limit(1)", nil}, {"setpath(1)", nil}, {"setpath", nil}, {"range", nil}, {"range(1; 2; 3)", nil}, {"error(1; 2)", nil}, {"path", nil}, {"not(.)", nil},
		{"def f: 1; f(1)", []int{1}}, {"def f(g): 1; f", []int{1}}, {"def f(g): 1; f(1; 2)", []int{1}}, {"def f(g): g(1); f(1)", []int{0}}, {"def f: 1; def f(g): 1; f(1; 2)", []int{1, 1}}, {"def f: 1; def f(g; h): 1; f(1)", []int{1, 1}},
		{"def map: 1; map(1; 2)", []int{1}}, {"def f(f): f(1; 2); 1", []int{0}}, {"def f(a; b; c; d; e; f; g; h): 1; f(1; 2; 3; 4; 5; 6; 7)", []int{1}},
		// The number of parameters of an inner function is none of the outer function's.
		{"(def f(g): 1; .) | def f: 1; f(1)", []int{1, 1}}, {"def f: def f(g): 1; .; f(1)", []int{1}},
	})
	many := slices.Repeat([]api.Filter{dot}, 1000)
	for _, count := range []int{9, 31, 32, 33, 63, 64, 65, 128, 1000} {
		expect(t, call("f", many[:count]...), api.ErrName)
		expect(t, call("length", many[:count]...), api.ErrArity)
		expect(t, def("f", "", dot, call("f", many[:count]...)), api.ErrArity, 1)
	}
}

// OpInputs stands in one place only.
func TestP13_1Inputs(t *testing.T) {
	known(t, "reduce inputs as $x (0; 1)", "reduce (inputs) as $x (0; 1)", "def f: 1; reduce inputs as $x (f; f)", "def f: 1; def g(h): h; reduce inputs as $x (0; g($x))")
	expectAll(t, api.ErrName, []finding{
		{"inputs", nil}, {"[inputs]", []int{0}}, {"inputs | .", []int{0}}, {"reduce inputs as $x (inputs; 1)", []int{1}}, {"reduce inputs as $x (0; inputs)", []int{2}}, {"reduce inputs as $x (0; reduce inputs as $y (0; 1))", []int{2, 0}},
		{"reduce [inputs] as $x (0; 1)", []int{0, 0}}, {"reduce inputs[] as $x (0; 1)", []int{0, 0}}, {"reduce (inputs, 1) as $x (0; 1)", []int{0, 0}}, {"foreach inputs as $x (0; 1)", []int{0}}, {"inputs as $x | 1", []int{0}},
		{"[reduce inputs as $x (0; 1)]", []int{0, 0}}, {"(reduce inputs as $x (0; 1)) | .", []int{0, 0}}, {"(reduce inputs as $x (0; 1))?", []int{0, 0}}, {". as $y | reduce inputs as $x (0; 1)", []int{1, 0}}, {"label $y | reduce inputs as $x (0; 1)", []int{0, 0}},
		{"def f: reduce inputs as $x (0; 1); f", []int{0, 0}}, {"def f: inputs; reduce inputs as $x (0; 1)", []int{0}}, {"def f: 1; inputs", []int{1}}, {"def f: 1; [inputs]", []int{1, 0}}, {"def f: 1; . | reduce inputs as $x (0; 1)", []int{1, 1, 0}}, {"def f: 1; reduce inputs as $x (0; inputs)", []int{1, 2}},
		{"def f: 1; def g: reduce inputs as $x (0; 1); reduce inputs as $x (0; 1)", []int{1, 0, 0}}, {"def f(g): 1; f(inputs)", []int{1, 0}}, {"def inputs: 1; inputs", []int{1}},
	})
	// It is no call, and has no variable or function.
	expectAll(t, api.ErrName, []finding{{"inputs(1)", nil}, {"reduce inputs as $x ($x; 1)", []int{1}}})
	expectAll(t, api.ErrArity, []finding{{"def inputs(f): f; inputs(1; 2)", []int{1}}})
}

// A node comes before its elements, and these come in ascending order; ErrInvalid comes before everything.
func TestP13_1Order(t *testing.T) {
	expectAll(t, api.ErrName, []finding{
		{"$x, $y", []int{0}}, {"[1, [$x]], map", []int{0, 0, 1, 0}}, {"foo($x)", nil}, {"foo(map; $x)", nil}, {". as $y | $x, $y, map", []int{1, 0, 0}}, {"{a: 1, b: $x, c: map}", []int{3}}, {"if 1 then 2 else break $x end", []int{2}}, {"def f: $x; map", []int{0}}, {"reduce $x as $x (map; inputs)", []int{0}},
	})
	expectAll(t, api.ErrArity, []finding{
		{"map, $x", []int{0}}, {"map($x; 1)", nil}, {"map(map(map($x; 1)))", []int{0, 0}}, {"[1, [map]], $x", []int{0, 0, 1, 0}}, {"def f: map; $x", []int{0}}, {"{(map): $x}", []int{0}}, {"reduce map as $x (inputs; $y)", []int{0}}, {"1 + 2 * (3 | map)", []int{1, 1, 1}},
	})
	broken := n(api.OpIdentity, dot)
	for _, f := range []api.Filter{parse(t, "$x"), parse(t, "map"), inputs, dot} {
		expect(t, n(api.OpComma, f, broken), api.ErrInvalid)
		expect(t, n(api.OpComma, broken, f), api.ErrInvalid)
	}
}

// What is not printable is not valid, and has no place.
func TestP13_1Invalid(t *testing.T) {
	long := strings.Repeat("n", api.MaxName+1)
	for _, f := range []api.Filter{
		{}, {Op: -1}, {Op: 29}, {Op: 1 << 40}, {Op: api.OpIdentity, Text: "a"}, {Op: api.OpIdentity, Params: []string{"a"}}, {Op: api.OpIdentity, Value: api.Value{Kind: api.True}}, n(api.OpIdentity, dot), n(api.OpPipe, dot),
		named(api.OpVar, ""), named(api.OpVar, "$x"), named(api.OpVar, long), named(api.OpVar, "x", dot), named(api.OpBreak, "é"), call(".."), call("if"), call("inputs"), call(""), call(long), named(api.OpBind, "", dot, dot), named(api.OpLabel, "1", dot), named(api.OpReduce, "x", inputs, dot),
		def("..", "", dot, dot), def("f", "$", dot, dot), def("f", "if", dot, dot), def("f", "a b c d e f g h i", dot, dot), named(api.OpUpdate, "+", dot, dot), {Op: api.OpLiteral, Value: api.Value{Kind: api.Array}}, {Op: api.OpLiteral, Value: api.Value{Kind: api.Number, Int: -1}}, {Op: api.OpLiteral, Value: api.Value{Kind: api.String, Str: "\xff"}},
	} {
		expect(t, f, api.ErrInvalid)
		expect(t, n(api.OpArray, f), api.ErrInvalid)
		expect(t, n(api.OpComma, parse(t, ". as $x | $x"), f), api.ErrInvalid)
		expect(t, def("f", "", dot, named(api.OpBind, "x", dot, f)), api.ErrInvalid)
	}
}

func TestP13_2Fold(t *testing.T) {
	for s, want := range map[string]bool{
		"reduce inputs as $x (0; . + $x)": true, "reduce (inputs) as $x ($y; foo)": true, "def f: 1; reduce inputs as $x (0; 1)": true, "def f: 1; def g($x): 2; reduce inputs as $x (0; 1)": true, "reduce inputs as $x (inputs; inputs)": true, "def f: inputs; reduce inputs as $x (0; f)": true,
		".": false, "inputs": false, "reduce . as $x (0; 1)": false, "reduce [inputs] as $x (0; 1)": false, "reduce . as $x (inputs; inputs)": false, "foreach inputs as $x (0; 1)": false, "[reduce inputs as $x (0; 1)]": false, "(reduce inputs as $x (0; 1))?": false, ". | reduce inputs as $x (0; 1)": false, "reduce inputs as $x (0; 1) | .": false, "inputs as $x | $x": false,
		"def f: reduce inputs as $x (0; 1); f": false, "def f: 1; inputs": false, "def f: 1; . | reduce inputs as $x (0; 1)": false, ". as $y | reduce inputs as $x (0; 1)": false, "label $y | reduce inputs as $x (0; 1)": false, "def f: 1; [def g: 1; reduce inputs as $x (0; 1)]": false, "inputs(1)": false,
	} {
		if Fold(parse(t, s)) != want {
			t.Errorf("Fold of %s is %v", s, !want)
		}
	}
}

// Fold examines the operators only, also of nodes that are not printable.
func TestP13_2FoldOfInvalid(t *testing.T) {
	fold := named(api.OpReduce, "x", inputs, dot, dot)
	for _, f := range []api.Filter{
		n(api.OpReduce, inputs), n(api.OpReduce, inputs, dot), named(api.OpReduce, "1", inputs, n(0), n(-1)), n(api.OpReduce, named(api.OpInputs, "a", dot), dot, dot), n(api.OpReduce, inputs, dot, dot, dot, dot),
		n(api.OpDef, dot, fold), n(api.OpDef, n(0), fold, dot), {Op: api.OpDef, Text: "if", Params: []string{"", "$"}, Subs: []api.Filter{n(0), n(api.OpReduce, inputs)}}, n(api.OpDef, dot, n(api.OpDef, dot, fold)),
	} {
		if !Fold(f) {
			t.Errorf("%s is no fold", show(f))
		}
	}
	for _, f := range []api.Filter{
		{}, n(-1, inputs), n(29, inputs), n(api.OpReduce), n(api.OpReduce, dot, inputs), n(api.OpReduce, n(0), inputs), n(api.OpDef), n(api.OpDef, fold), n(api.OpDef, fold, dot), n(api.OpDef, dot, dot, fold), n(api.OpForeach, inputs, dot, dot), n(api.OpInputs, inputs), n(api.OpDef, dot, n(api.OpReduce)),
	} {
		if Fold(f) {
			t.Errorf("%s is a fold", show(f))
		}
	}
}
