package fprint

import (
	"fmt"
	"slices"
	"strings"
	"testing"

	"ndjq/api"
	"ndjq/fparse"
)

// The nodes of the tests are written with these functions.

func n(op int, subs ...api.Filter) api.Filter {
	return api.Filter{Op: op, Subs: subs}
}

func named(op int, name string, subs ...api.Filter) api.Filter {
	return api.Filter{Op: op, Text: name, Subs: subs}
}

func lit(v api.Value) api.Filter { return api.Filter{Op: api.OpLiteral, Value: v} }

func num(i int64) api.Filter { return lit(api.Value{Kind: api.Number, Int: i}) }

func str(s string) api.Filter { return lit(api.Value{Kind: api.String, Str: s}) }

func v(name string) api.Filter { return named(api.OpVar, name) }

func fld(f api.Filter, name string) api.Filter { return named(api.OpField, name, f) }

func call(name string, l ...api.Filter) api.Filter { return named(api.OpCall, name, l...) }

func def(name, params string, body, rest api.Filter) api.Filter {
	return api.Filter{Op: api.OpDef, Text: name, Params: strings.Fields(params), Subs: []api.Filter{body, rest}}
}

var (
	dot    = n(api.OpIdentity)
	rec    = n(api.OpRecurse)
	inputs = n(api.OpInputs)
	none   = lit(api.Value{})
	one    = num(1)
	two    = num(2)
	three  = num(3)
	four   = num(4)
	sum    = named(api.OpBinary, "+", one, two)
)

// equal compares all fields; a nil slice and an empty one are equal.
func equal(f, g api.Filter) bool {
	return f.Op == g.Op && f.Text == g.Text && equalValues(f.Value, g.Value) && slices.Equal(f.Params, g.Params) && slices.EqualFunc(f.Subs, g.Subs, equal)
}

func equalValues(a, b api.Value) bool {
	return a.Kind == b.Kind && a.Int == b.Int && a.Str == b.Str && slices.Equal(a.Keys, b.Keys) && slices.EqualFunc(a.Elems, b.Elems, equalValues)
}

func brief(s string) string {
	if len(s) > 300 {
		return fmt.Sprintf("%q.. of %d bytes", s[:300], len(s))
	}
	return fmt.Sprintf("%q", s)
}

func show(f api.Filter) string { return brief(fmt.Sprintf("%+v", f)) }

// expect expects that f is printable and has the given text.
func expect(t *testing.T, f api.Filter, want string) {
	t.Helper()
	if !Printable(f) {
		t.Errorf("%s, with the text %s, is not printable", show(f), brief(want))
	}
	if s := Print(f); s != want {
		t.Errorf("Print(%s) = %s, not %s", show(f), brief(s), brief(want))
	}
}

// expectNone expects that f is not printable.
func expectNone(t *testing.T, f api.Filter) {
	t.Helper()
	if Printable(f) {
		t.Errorf("%s is printable", show(f))
	}
	if s := Print(f); s != "" {
		t.Errorf("Print(%s), which is not printable, = %s", show(f), brief(s))
	}
}

func parse(t *testing.T, s string) api.Filter {
	t.Helper()
	f, at, e := fparse.Parse(s)
	if e != api.OK {
		t.Fatalf("Parse(%s): error %d at %d", brief(s), e, at)
	}
	return f
}

func TestExamples(t *testing.T) {
	for s, want := range map[string]string{".a.b?": ".a.b?", "1+2*3": "1 + (2 * 3)", "{a:1}": "{(\"a\"): 1}", ".[1:]": ".[1:null]"} {
		expect(t, parse(t, s), want)
	}
}

// Each row of the chapter's table, with elements that need no parentheses and with some that do.
func TestP12_1Forms(t *testing.T) {
	for _, x := range []struct {
		f    api.Filter
		want string
	}{
		{dot, "."}, {rec, ".."}, {inputs, "inputs"},
		{n(api.OpIndex, dot, one), ".[1]"}, {n(api.OpIndex, sum, sum), "(1 + 2)[1 + 2]"},
		{n(api.OpSlice, dot, one, two), ".[1:2]"}, {n(api.OpSlice, sum, sum, sum), "(1 + 2)[1 + 2:1 + 2]"}, {n(api.OpSlice, dot, none, none), ".[null:null]"},
		{n(api.OpIterate, dot), ".[]"}, {n(api.OpIterate, sum), "(1 + 2)[]"},
		{none, "null"}, {lit(api.Value{Kind: api.True}), "true"}, {lit(api.Value{Kind: api.False}), "false"}, {num(0), "0"}, {num(1<<63 - 1), "9223372036854775807"}, {str(""), "\"\""}, {str("a\"\\\n\x01é\u2028/"), "\"a\\\"\\\\\\n\\u0001é\u2028/\""},
		{v("x"), "$x"}, {v("if"), "$if"}, {named(api.OpBreak, "x"), "break $x"}, {named(api.OpBreak, "and"), "break $and"},
		{n(api.OpArray), "[]"}, {n(api.OpArray, one), "[1]"}, {n(api.OpArray, sum), "[1 + 2]"}, {n(api.OpArray, n(api.OpComma, one, two)), "[1, 2]"},
		{n(api.OpObject), "{}"}, {n(api.OpObject, one, two), "{(1): 2}"}, {n(api.OpObject, sum, sum), "{(1 + 2): (1 + 2)}"}, {n(api.OpObject, str("a"), one, sum, sum, dot, dot), "{(\"a\"): 1, (1 + 2): (1 + 2), (.): .}"},
		{n(api.OpNeg, one), "-1"}, {n(api.OpNeg, sum), "-(1 + 2)"}, {n(api.OpNeg, n(api.OpNeg, one)), "-(-1)"},
		{n(api.OpTry, dot), ".?"}, {n(api.OpTry, sum), "(1 + 2)?"}, {n(api.OpTry, n(api.OpTry, dot)), ".??"},
		{n(api.OpTry, one, two), "try 1 catch 2"}, {n(api.OpTry, sum, sum), "try (1 + 2) catch (1 + 2)"},
		{n(api.OpPipe, one, two), "1 | 2"}, {n(api.OpComma, one, two), "1, 2"}, {n(api.OpAlt, one, two), "1 // 2"}, {n(api.OpOr, one, two), "1 or 2"}, {n(api.OpAnd, one, two), "1 and 2"},
		{n(api.OpPipe, sum, sum), "(1 + 2) | (1 + 2)"}, {n(api.OpComma, sum, sum), "(1 + 2), (1 + 2)"}, {n(api.OpAlt, sum, sum), "(1 + 2) // (1 + 2)"}, {n(api.OpOr, sum, sum), "(1 + 2) or (1 + 2)"}, {n(api.OpAnd, sum, sum), "(1 + 2) and (1 + 2)"},
		{n(api.OpIf, one, two, three), "if 1 then 2 else 3 end"}, {n(api.OpIf, sum, sum, sum), "if 1 + 2 then 1 + 2 else 1 + 2 end"}, {n(api.OpIf, one, two, dot), "if 1 then 2 else . end"}, {n(api.OpIf, one, two, n(api.OpIf, three, four, dot)), "if 1 then 2 else if 3 then 4 else . end end"},
		{named(api.OpReduce, "x", one, two, three), "reduce 1 as $x (2; 3)"}, {named(api.OpReduce, "x", sum, sum, sum), "reduce (1 + 2) as $x (1 + 2; 1 + 2)"},
		{named(api.OpForeach, "x", one, two, three, four), "foreach 1 as $x (2; 3; 4)"}, {named(api.OpForeach, "or", sum, sum, sum, sum), "foreach (1 + 2) as $or (1 + 2; 1 + 2; 1 + 2)"}, {named(api.OpForeach, "x", one, two, three, dot), "foreach 1 as $x (2; 3; .)"},
		{named(api.OpLabel, "x", one), "label $x | 1"}, {named(api.OpLabel, "x", sum), "label $x | 1 + 2"},
		{named(api.OpBind, "x", one, two), "1 as $x | 2"}, {named(api.OpBind, "x", sum, sum), "(1 + 2) as $x | 1 + 2"},
		{call("f"), "f"}, {call("f", one), "f(1)"}, {call("f", sum, two, sum), "f(1 + 2; 2; 1 + 2)"}, {call("inputs", one), "inputs(1)"},
		{def("f", "", one, two), "def f: 1; 2"}, {def("f", "g", sum, sum), "def f(g): 1 + 2; 1 + 2"}, {def("inputs", "$a b $if inputs", one, two), "def inputs($a; b; $if; inputs): 1; 2"},
		{def("f", "", n(api.OpPipe, one, two), n(api.OpPipe, three, four)), "def f: 1 | 2; 3 | 4"}, {n(api.OpPipe, def("f", "", one, two), three), "(def f: 1; 2) | 3"},
	} {
		expect(t, x.f, x.want)
	}
}

func TestP12_1Operators(t *testing.T) {
	for _, sign := range strings.Fields("+ - * / % == != < <= > >=") {
		expect(t, named(api.OpBinary, sign, one, two), "1 "+sign+" 2")
		expect(t, named(api.OpBinary, sign, sum, sum), "(1 + 2) "+sign+" (1 + 2)")
		expectNone(t, named(api.OpUpdate, sign, one, two))
	}
	for _, sign := range strings.Fields("= |= += -= *= /= %=") {
		expect(t, named(api.OpUpdate, sign, one, two), "1 "+sign+" 2")
		expect(t, named(api.OpUpdate, sign, sum, sum), "(1 + 2) "+sign+" (1 + 2)")
		expectNone(t, named(api.OpBinary, sign, one, two))
	}
	for _, sign := range []string{"", "|", ",", "//", "or", "and", "//=", "===", "<>", "&", "^", "?", " +", "+ ", "++", "a", "\xff", "N", "P0"} {
		expectNone(t, named(api.OpBinary, sign, one, two))
		expectNone(t, named(api.OpUpdate, sign, one, two))
	}
}

func TestP12_1Fields(t *testing.T) {
	for name, want := range map[string]string{
		"a": ".a", "_1": "._1", "if": ".if", "inputs": ".inputs", "P0": ".P0", "T": ".T", "": ".\"\"", "1": ".\"1\"", "a b": ".\"a b\"", "a-": ".\"a-\"", "$a": ".\"$a\"", ".a": ".\".a\"", "é": ".\"é\"", "\n\"": ".\"\\n\\\"\"", "\x00": ".\"\\u0000\"", " ": ".\" \"",
		strings.Repeat("n", api.MaxName): "." + strings.Repeat("n", api.MaxName), strings.Repeat("n", api.MaxName+1): ".\"" + strings.Repeat("n", api.MaxName+1) + "\"",
	} {
		expect(t, fld(dot, name), want)
		expect(t, fld(rec, name), ".."+want)
		expect(t, fld(fld(dot, name), name), want+want)
		expect(t, fld(fld(rec, "a"), name), "...a"+want)
		expect(t, fld(one, name), "1"+want)
		expect(t, fld(sum, name), "(1 + 2)"+want)
		expect(t, fld(n(api.OpTry, dot), name), ".?"+want)
		expect(t, fld(n(api.OpTry, dot, dot), name), "(try . catch .)"+want)
		expect(t, fld(n(api.OpIterate, fld(dot, name)), name), want+"[]"+want)
	}
}

// Texts of filters that are nested several times.
func TestP12_1Texts(t *testing.T) {
	for s, want := range map[string]string{
		"1-2-3": "(1 - 2) - 3", "1-(2-3)": "1 - (2 - 3)", "1//2//3": "1 // (2 // 3)", "1|2|3": "1 | (2 | 3)", "1,2,3": "(1, 2), 3", "1 or 2 and 3": "1 or (2 and 3)", "--.a": "-(-.a)", "-1+2": "(-1) + 2", ".a=1,2": "(.a = 1), 2", ".a|=.b//1": ".a |= (.b // 1)",
		"(((1)))": "1", "\"a\\u00e9\\/\" # c": "\"aé/\"", ".a.\"b\".\"c d\"[\"e\"]": ".a.b.\"c d\"[\"e\"]", ". .\"a\"": ".a", "..[\"a\"].\"a\"": "..[\"a\"].a", ".[:2]": ".[null:2]", ".[][]?[1]": ".[][]?[1]", "..[0]": "..[0]",
		"{a,\"b\",$c,(.d):2,if:1}": "{(\"a\"): .a, (\"b\"): .b, (\"c\"): $c, (.d): 2, (\"if\"): 1}", "{a:1//2,b:-1}": "{(\"a\"): (1 // 2), (\"b\"): (-1)}", "{(1,2):.a?}": "{(1, 2): .a?}", "{a:1+2*3}": "{(\"a\"): (1 + (2 * 3))}",
		"if 1 then 2 end": "if 1 then 2 else . end", "if 1 then 2 elif 3 then 4 else 5 end.a": "if 1 then 2 else if 3 then 4 else 5 end end.a", "try 1": "1?", "try .a? catch .b": "try .a? catch .b", "(try 1 catch 2)?": "(try 1 catch 2)?", "try (try 1 catch 2)": "(try 1 catch 2)?",
		"foreach .[] as $x(0;1)": "foreach .[] as $x (0; 1; .)", "reduce inputs as $x(0;.+$x)": "reduce inputs as $x (0; . + $x)", "(reduce(1,2)as $x(0;1))[0]": "reduce (1, 2) as $x (0; 1)[0]",
		"1+. as $x|$x,2": "1 + (. as $x | $x, 2)", "label $f|1,break $f": "label $f | 1, break $f", "(. as $x|1)as $y|2": "(. as $x | 1) as $y | 2", ". as $x|. as $y|$x+$y": ". as $x | . as $y | $x + $y",
		"def f(g;$x):g|$x;f(1;2)": "def f(g; $x): g | $x; f(1; 2)", "def f:def g:1;g;f": "def f: def g: 1; g; f", "[def f:1;f]": "[def f: 1; f]", "f(def g:1;g;2|3)": "f(def g: 1; g; 2 | 3)",
	} {
		expect(t, parse(t, s), want)
	}
}
