package desugar

import (
	"fmt"
	"slices"
	"strconv"
	"strings"
	"testing"

	"ndjq/api"
	"ndjq/fparse"
)

// The nodes of the tests are written with these functions, or as texts.

func n(op int, subs ...api.Filter) api.Filter {
	return api.Filter{Op: op, Subs: subs}
}

func named(op int, name string, subs ...api.Filter) api.Filter {
	return api.Filter{Op: op, Text: name, Subs: subs}
}

func call(name string, l ...api.Filter) api.Filter { return named(api.OpCall, name, l...) }

func def(name, params string, body, rest api.Filter) api.Filter {
	return api.Filter{Op: api.OpDef, Text: name, Params: strings.Fields(params), Subs: []api.Filter{body, rest}}
}

func literal(s string) api.Filter {
	return api.Filter{Op: api.OpLiteral, Value: api.Value{Kind: api.String, Str: s}}
}

func variable(name string) api.Filter { return named(api.OpVar, name) }

var dot = n(api.OpIdentity)

// equal compares all fields; a nil slice and an empty one are equal.
func equal(f, g api.Filter) bool {
	return f.Op == g.Op && f.Text == g.Text && sameValue(f.Value, g.Value) && slices.Equal(f.Params, g.Params) && slices.EqualFunc(f.Subs, g.Subs, equal)
}

func sameValue(v, w api.Value) bool {
	return v.Kind == w.Kind && v.Int == w.Int && v.Str == w.Str && len(v.Keys) == len(w.Keys) && len(v.Elems) == len(w.Elems)
}

func brief(s string) string {
	if len(s) > 400 {
		return fmt.Sprintf("%q.. of %d bytes", s[:400], len(s))
	}
	return fmt.Sprintf("%q", s)
}

func show(f api.Filter) string { return brief(fmt.Sprintf("%+v", f)) }

func parse(t *testing.T, s string) api.Filter {
	t.Helper()
	f, at, e := fparse.Parse(s)
	if e != api.OK {
		t.Fatalf("Parse(%s): error %d at %d", brief(s), e, at)
	}
	return f
}

// quoted are the names that stand in quotes in the chapter. In the texts of the tests they are q0, q1 and so on.
func quoted() []string { return []string{"..", "=", "|=", "+=", "-=", "*=", "/=", "%="} }

// unquoted returns f with the quoted names in the places of q0, q1 and so on.
func unquoted(f api.Filter) api.Filter {
	for i, name := range quoted() {
		if f.Text == "q"+strconv.Itoa(i) {
			f.Text = name
		}
	}
	f.Subs = slices.Clone(f.Subs)
	for i, sub := range f.Subs {
		f.Subs[i] = unquoted(sub)
	}
	return f
}

func parseQuoted(t *testing.T, s string) api.Filter {
	t.Helper()
	return unquoted(parse(t, s))
}

// signatures returns the texts "name/n" of the definitions around f, and what is in them.
func signatures(f api.Filter) ([]string, api.Filter) {
	var l []string
	for f.Op == api.OpDef {
		l = append(l, fmt.Sprintf("%s/%d", f.Text, len(f.Params)))
		f = f.Subs[1]
	}
	return l, f
}

// wrapped returns f with the definitions of the prelude around it whose texts "name/n" are given, the first one outside.
func wrapped(t *testing.T, f api.Filter, defs ...string) api.Filter {
	t.Helper()
	for _, s := range slices.Backward(defs) {
		d := statedDef(s)
		if d.Op != api.OpDef {
			t.Fatalf("the prelude has no %s", s)
		}
		f = def(d.Text, strings.Join(d.Params, " "), d.Subs[0], f)
	}
	return f
}

// expect expects that Core of a filter is the given one, which does not contain definitions of the prelude, with the given definitions around it.
func expect(t *testing.T, f, want api.Filter, defs ...string) {
	t.Helper()
	want = wrapped(t, want, defs...)
	if got, place, e := Core(f); e != api.OK || len(place) > 0 || !equal(got, want) {
		t.Errorf("Core(%s) = %s, %v, error %d, not %s", show(f), show(got), place, e, show(want))
	}
}

// expectText expects the same of texts.
func expectText(t *testing.T, text, want string, defs ...string) {
	t.Helper()
	expect(t, parse(t, text), parseQuoted(t, want), defs...)
}

func expectError(t *testing.T, f api.Filter, want api.Errno, place ...int) {
	t.Helper()
	if got, at, e := Core(f); e != want || !slices.Equal(at, place) || !equal(got, api.Filter{}) {
		t.Errorf("Core(%s) = %s, %v, error %d, not %v, error %d", show(f), show(got), at, e, place, want)
	}
}

func TestExamples(t *testing.T) {
	expect(t, parse(t, ".a"), n(api.OpIndex, dot, literal("a")))
	body := n(api.OpArray, n(api.OpPipe, n(api.OpIterate, dot), call("f")))
	want := def("map", "f", body, call("map", n(api.OpIndex, dot, literal("x"))))
	if got, _, e := Core(parse(t, "map(.x)")); e != api.OK || !equal(got, want) {
		t.Errorf("Core of map(.x) is %s", show(got))
	}
	got, _, _ := Core(parse(t, ".. | .a += 1"))
	if l, rest := signatures(got); !slices.Equal(l, []string{"../0", "|=/2", "+=/2"}) || !equal(rest, n(api.OpPipe, call(".."), call("+=", n(api.OpIndex, dot, literal("a")), parse(t, "1")))) {
		t.Errorf("Core of .. | .a += 1 is %s", show(got))
	}
}

// Each form of the grammar, and what the translation makes of it.
func TestP14_2Nodes(t *testing.T) {
	for _, s := range []string{
		".", ".[0]", ".[1:]", ".[:2]", ".[1:2]", ".[]", "null", "true", "12", `"a"`, ". as $x | $x", "[]", "[.]", "{}", `{("a"): 1}`, `{("a"): 1, ("b"): .[0], (.[1]): 2}`, "-.", ". | 1", "1, 2", "1 // 2", "1 or 2", "1 and 2", "1 + 2", "1 - 2 * 3 / 4 % 5", "1 == 2", "1 != 2", "1 < 2", "1 <= 2", "1 > 2", "1 >= 2",
		"if 1 then 2 else 3 end", ".?", "try 1 catch 2", "reduce . as $x (1; 2)", "foreach . as $x (1; 2; 3)", "label $x | 1", "label $x | break $x", "length", "has(1)", "setpath([]; 2)", "def f: 1; f", "def f($a; b; $c): b | $a, $c; f(1; 2; 3)", "reduce inputs as $x (0; . + $x)", "def f: 1; reduce inputs as $x (f; f)",
	} {
		expectText(t, s, s)
	}
	for _, x := range [][2]string{
		{".a", `.["a"]`}, {".a.b", `.["a"]["b"]`}, {`."a b"`, `.["a b"]`}, {`.""`, `.[""]`}, {`."é\u0000"`, `.["é\u0000"]`}, {".if", `.["if"]`}, {".a[.b]", `.["a"][.["b"]]`}, {".a[.b:.c]", `.["a"][.["b"]:.["c"]]`}, {".a[]?", `.["a"][]?`}, {".[0].a", `.[0]["a"]`}, {"1.a", `1["a"]`},
		{"{a}", `{("a"): .["a"]}`}, {"{a: .b}", `{("a"): .["b"]}`}, {"{(.a): .b}", `{(.["a"]): .["b"]}`}, {". as $x | {$x}", `. as $x | {("x"): $x}`}, {"[.a]", `[.["a"]]`}, {"-.a", `-.["a"]`}, {".a | .b", `.["a"] | .["b"]`}, {".a, .b", `.["a"], .["b"]`}, {".a // .b", `.["a"] // .["b"]`}, {".a or .b", `.["a"] or .["b"]`}, {".a and .b", `.["a"] and .["b"]`}, {".a + .b", `.["a"] + .["b"]`},
		{"if .a then .b else .c end", `if .["a"] then .["b"] else .["c"] end`}, {"if .a then .b end", `if .["a"] then .["b"] else . end`}, {"try .a", `try .["a"]`}, {"try .a catch .b", `try .["a"] catch .["b"]`}, {"reduce .a as $x (.b; .c)", `reduce .["a"] as $x (.["b"]; .["c"])`}, {"foreach .a as $x (.b; .c; .d)", `foreach .["a"] as $x (.["b"]; .["c"]; .["d"])`}, {"label $x | .a", `label $x | .["a"]`}, {".a as $x | .b", `.["a"] as $x | .["b"]`},
		{"has(.a)", `has(.["a"])`}, {"setpath(.a; .b)", `setpath(.["a"]; .["b"])`}, {"def f: .a; .b", `def f: .["a"]; .["b"]`}, {"reduce inputs as $x (.a; .b)", `reduce inputs as $x (.["a"]; .["b"])`}, {`.["a"]`, `.["a"]`},
	} {
		expectText(t, x[0], x[1])
	}
}

// The nodes that become calls of definitions of the prelude.
func TestP14_2Calls(t *testing.T) {
	expectText(t, "..", "q0", "../0")
	expectText(t, "[..]", "[q0]", "../0")
	expectText(t, "..[0]", "q0[0]", "../0")
	expectText(t, "...a", `q0["a"]`, "../0")
	expectText(t, ".. | ..", "q0 | q0", "../0")
	for i, name := range quoted()[1:] {
		defs := []string{name + "/2"}
		if i > 1 {
			defs = []string{"|=/2", name + "/2"}
		}
		q := "q" + strconv.Itoa(i+1)
		expectText(t, ". "+name+" 1", q+"(.; 1)", defs...)
		expectText(t, ".a "+name+" .b", q+`(.["a"]; .["b"])`, defs...)
		expectText(t, "[.[] "+name+" (1, 2)]", "["+q+"(.[]; 1, 2)]", defs...)
		expectText(t, "(. "+name+" 1) "+name+" (2 "+name+" .)", q+"("+q+"(.; 1); "+q+"(2; .))", defs...)
		expectText(t, ".. "+name+" ..", q+"(q0; q0)", append([]string{"../0"}, defs...)...)
		expectText(t, "map(. "+name+" 1)", "map("+q+"(.; 1))", append(defs, "map/1")...)
	}
	expectText(t, "(.a = 1) | (.a += 1) | (.b %= 1)", `q1(.["a"]; 1) | q3(.["a"]; 1) | q7(.["b"]; 1)`, "=/2", "|=/2", "+=/2", "%=/2")
}

// Definitions are put around the filter if they are called in it, or in the body of another one, in the order of the prelude.
func TestP14_2Definitions(t *testing.T) {
	for s, defs := range map[string]string{
		"map(1)": "map/1", "select(1)": "select/1", "recurse": "recurse/0", "recurse(1)": "recurse/1", "recurse, recurse(1)": "recurse/0 recurse/1", "recurse(1), recurse": "recurse/0 recurse/1", "range(1)": "range/1", "range(1; 2)": "range/2", "range(range(1); range(2))": "range/1 range/2", "while(1; 2)": "while/2", "until(1; 2)": "until/2", "repeat(1)": "repeat/1", "limit(1; 2)": "limit/2", "first(1)": "first/1", "last(1)": "last/1", "nth(1; 2)": "limit/2 last/1 nth/2", "isempty(1)": "isempty/1", "any(1)": "isempty/1 any/1", "all(1)": "isempty/1 all/1", "any": "", "all": "", "any, all(1)": "isempty/1 all/1", "del(1)": "del/1", "to_array": "to_array/0",
		"with_entries(1)": "map/1 with_entries/1", "map_values(1)": "|=/2 map_values/1", "sort_by(1)": "sort_by/1", "group_by(1)": "group_by/1", "unique_by(1)": "unique_by/1", "min_by(1)": "min_by/1", "max_by(1)": "max_by/1", "sort, group, unique, min, max": "", "sort_keys(1)": "", "walk(1)": "|=/2 map/1 map_values/1 walk/1", "paths": "../0 select/1 paths/0", "leaf_paths": "../0 select/1 paths/0 leaf_paths/0", "inside(1)": "inside/1", "contains(1)": "", "combinations": "combinations/0", "in(1)": "in/1", "has(1)": "", "flatten": "flatten/0", "flatten(1)": "", "flatten | flatten(1)": "flatten/0",
		"walk(leaf_paths)": "../0 |=/2 map/1 select/1 map_values/1 walk/1 paths/0 leaf_paths/0", "flatten, in(1), map(1)": "map/1 in/1 flatten/0", "map(map(map(1)))": "map/1", "map(select(1))": "map/1 select/1", "select(map(1))": "map/1 select/1", "{a: map(1)}": "map/1", "reduce inputs as $x (0; map(1))": "map/1", "reduce inputs as $x (flatten; 0)": "flatten/0", "last(first(1)), paths": "../0 select/1 first/1 last/1 paths/0",
		"def f: 1; f": "", "def f: map(1); 2": "map/1", "def f: 1; map(1)": "map/1", "def f(g): map(g); f(1)": "map/1", "empty, error, error(1), path(1), getpath(1)": "", "try map(1) catch 2": "map/1", "label $map | break $map": "", ". as $map | $map": "", `"map"`: "", "{map}": "", ".map": "",
	} {
		f := parse(t, s)
		expect(t, f, statedNodes(f), strings.Fields(defs)...)
	}
}

// A function that is defined where it is called is none of the prelude; one with another number of parameters or in another scope does not count.
func TestP14_2OwnFunctions(t *testing.T) {
	for s, defs := range map[string]string{
		"def map(f): f; map(1)": "", "def map(f): map(f); 1": "", "def map(f): 1; def g: map(1); g": "", "def map(f): 1; def map(f): map(f); map(1)": "", "def f: def map(g): g; map(1); f": "", "def map($x): $x; map(1)": "", "def map: 1; map": "",
		"def map: 1; map(1)": "map/1", "def map(f; g): 1; map(1)": "map/1", "(def map(f): f; map(1)) | map(2)": "map/1", "map(2) | def map(f): f; map(1)": "map/1", "def f: def map(g): g; map(1); map(2)": "map/1", "def f: map(1); def map(g): g; f": "map/1", "map(def map(f): f; map(1))": "map/1",
		"def f(recurse): recurse; f(1)": "", "def f(recurse): recurse; f(recurse)": "recurse/0", "def f(recurse): 1; recurse": "recurse/0", "def f(recurse): recurse(1); f(2)": "recurse/1", "def f($recurse): recurse; f(1)": "recurse/0", "def f($recurse): $recurse; f(1)": "", "def f(flatten): def g: flatten; g; f(1)": "", "def f(map): map(1); f(1)": "map/1", "def f(map): map; f(1)": "", "def f(a; paths; $b): paths; f(1; 2; 3)": "", "def recurse(recurse): recurse, recurse(1); recurse(2)": "", "def recurse(recurse): 1; recurse": "recurse/0",
		// The bodies of the prelude call its own functions.
		"def map(f): f; with_entries(1)": "map/1 with_entries/1", "def map(f): f; map(1), with_entries(1)": "map/1 with_entries/1", "def isempty(f): f; any(1)": "isempty/1 any/1", "def select(f): f; paths | select(1)": "../0 select/1 paths/0", "def last(f): f; def limit($n; f): f; nth(1; 2), last(3), limit(4; 5)": "limit/2 last/1 nth/2", "def paths: 1; leaf_paths, paths": "../0 select/1 paths/0 leaf_paths/0", "def map_values(f): 1; def walk(f): 2; walk(1)": "", "def combinations: 1; combinations": "", "def flatten: flatten(1); flatten": "", "def flatten(x): x; flatten": "flatten/0", "def path(f): f; paths": "../0 select/1 paths/0", "def length: 1; paths | length": "../0 select/1 paths/0",
	} {
		f := parse(t, s)
		expect(t, f, statedNodes(f), strings.Fields(defs)...)
	}
}

// Core has the errors of check.Check, and nothing else beside them.
func TestP14_2Errors(t *testing.T) {
	for _, x := range []struct {
		text  string
		e     api.Errno
		place []int
	}{
		{"$x", api.ErrName, nil}, {"[$x]", api.ErrName, []int{0}}, {"foo", api.ErrName, nil}, {"break $x", api.ErrName, nil}, {"[inputs]", api.ErrName, []int{0}}, {".. | .a = $x", api.ErrName, []int{1, 1}}, {"map", api.ErrArity, nil}, {".a | map(map)", api.ErrArity, []int{1, 0}}, {"def f: f(1); f", api.ErrArity, []int{0}}, {"$x, map", api.ErrName, []int{0}}, {"map, $x", api.ErrArity, []int{0}}, {"flatten(1; 2)", api.ErrArity, nil},
	} {
		expectError(t, parse(t, x.text), x.e, x.place...)
	}
	for _, f := range []api.Filter{
		{}, {Op: -1}, {Op: 29}, {Op: 1 << 40}, n(api.OpIdentity, dot), n(api.OpRecurse, dot), n(api.OpField), named(api.OpField, "\xff", dot), named(api.OpField, strings.Repeat("a", api.MaxString+1), dot), n(api.OpUpdate, dot, dot), named(api.OpUpdate, "+", dot, dot), named(api.OpUpdate, "|=", dot), call(".."), call("|=", dot, dot), def("..", "", dot, dot), def("=", "p f", dot, dot), def("f", "=", dot, dot), n(api.OpArray, n(api.OpField)), n(api.OpPipe, variable("x"), call("..")), {Op: api.OpIdentity, Text: "x"}, {Op: api.OpLiteral, Value: api.Value{Kind: api.Array}}, {Op: api.OpLiteral, Value: api.Value{Kind: api.Number, Int: -1}},
	} {
		expectError(t, f, api.ErrInvalid)
		expectError(t, n(api.OpComma, variable("x"), f), api.ErrInvalid)
	}
}

// What Core adds is not valid as an argument: the names in quotes are none of chapter 10.
func TestP14_2CoreOfCore(t *testing.T) {
	for s, isValid := range map[string]bool{".a": true, "map(.x)": true, "walk(1)": false, "..": false, ".a = 1": false, "nth(1; 2)": true, "paths": false, "def f: .a; f": true} {
		core, _, _ := Core(parse(t, s))
		if isValid {
			expect(t, core, core)
		} else {
			expectError(t, core, api.ErrInvalid)
		}
	}
}
