package fparse

import (
	"fmt"
	"math"
	"slices"
	"strings"
	"testing"

	"ndjq/api"
	"ndjq/value"
)

// The nodes that the tests expect are written with these functions.

func n(op int, subs ...api.Filter) api.Filter {
	return api.Filter{Op: op, Subs: subs}
}

func named(op int, name string, subs ...api.Filter) api.Filter {
	return api.Filter{Op: op, Text: name, Subs: subs}
}

func lit(v api.Value) api.Filter { return api.Filter{Op: api.OpLiteral, Value: v} }

func num(i int64) api.Filter { return lit(api.Value{Kind: api.Number, Int: i}) }

func str(s string) api.Filter { return lit(api.Value{Kind: api.String, Str: s}) }

var (
	dot    = n(api.OpIdentity)
	rec    = n(api.OpRecurse)
	none   = lit(api.Value{})
	yes    = lit(api.Value{Kind: api.True})
	no     = lit(api.Value{Kind: api.False})
	inputs = n(api.OpInputs)
	one    = num(1)
	two    = num(2)
	three  = num(3)
	four   = num(4)
)

func v(name string) api.Filter { return named(api.OpVar, name) }

func fld(f api.Filter, name string) api.Filter { return named(api.OpField, name, f) }

func at(f, index api.Filter) api.Filter { return n(api.OpIndex, f, index) }

func part(f, from, to api.Filter) api.Filter { return n(api.OpSlice, f, from, to) }

func each(f api.Filter) api.Filter { return n(api.OpIterate, f) }

func arr(l ...api.Filter) api.Filter { return n(api.OpArray, l...) }

func obj(l ...api.Filter) api.Filter { return n(api.OpObject, l...) }

func neg(f api.Filter) api.Filter { return n(api.OpNeg, f) }

func pipe(a, b api.Filter) api.Filter { return n(api.OpPipe, a, b) }

func comma(a, b api.Filter) api.Filter { return n(api.OpComma, a, b) }

func alt(a, b api.Filter) api.Filter { return n(api.OpAlt, a, b) }

func or(a, b api.Filter) api.Filter { return n(api.OpOr, a, b) }

func and(a, b api.Filter) api.Filter { return n(api.OpAnd, a, b) }

func bin(a api.Filter, sign string, b api.Filter) api.Filter {
	return named(api.OpBinary, sign, a, b)
}

func upd(a api.Filter, sign string, b api.Filter) api.Filter {
	return named(api.OpUpdate, sign, a, b)
}

func cond(a, b, c api.Filter) api.Filter { return n(api.OpIf, a, b, c) }

func try(l ...api.Filter) api.Filter { return n(api.OpTry, l...) }

func red(name string, l ...api.Filter) api.Filter { return named(api.OpReduce, name, l...) }

func fore(name string, l ...api.Filter) api.Filter { return named(api.OpForeach, name, l...) }

func label(name string, f api.Filter) api.Filter { return named(api.OpLabel, name, f) }

func brk(name string) api.Filter { return named(api.OpBreak, name) }

func bind(a api.Filter, name string, b api.Filter) api.Filter { return named(api.OpBind, name, a, b) }

func call(name string, l ...api.Filter) api.Filter { return named(api.OpCall, name, l...) }

func def(name, params string, body, rest api.Filter) api.Filter {
	return api.Filter{Op: api.OpDef, Text: name, Params: strings.Fields(params), Subs: []api.Filter{body, rest}}
}

// equal compares all fields; a nil slice and an empty one are equal.
func equal(f, g api.Filter) bool {
	x, y := f.Value, g.Value
	return f.Op == g.Op && f.Text == g.Text && slices.Equal(f.Params, g.Params) && slices.EqualFunc(f.Subs, g.Subs, equal) &&
		x.Kind == y.Kind && x.Int == y.Int && x.Str == y.Str && len(x.Keys)+len(x.Elems)+len(y.Keys)+len(y.Elems) == 0
}

// show writes all fields of a node that are not zero.
func show(f api.Filter) string {
	names := []string{"-", "identity", "recurse", "field", "index", "slice", "iterate", "literal", "var", "array", "object", "neg", "pipe", "comma", "alt", "or", "and", "binary", "if", "try", "reduce", "foreach", "label", "break", "bind", "call", "def", "update", "inputs"}
	s := fmt.Sprint(f.Op)
	if f.Op > 0 && f.Op < len(names) {
		s = names[f.Op]
	}
	if f.Text != "" {
		s += fmt.Sprintf(" %q", f.Text)
	}
	if f.Op == api.OpLiteral || f.Value.Kind != 0 || f.Value.Int != 0 {
		s += fmt.Sprintf(" %s %d %q", value.TypeName(f.Value), f.Value.Int, f.Value.Str)
	}
	if len(f.Params) > 0 {
		s += fmt.Sprintf(" %q", f.Params)
	}
	for _, sub := range f.Subs {
		s += " " + show(sub)
	}
	return "(" + s + ")"
}

func brief(s string) string {
	if len(s) > 300 {
		return fmt.Sprintf("%q.. of %d bytes", s[:300], len(s))
	}
	return fmt.Sprintf("%q", s)
}

func expect(t *testing.T, s string, want api.Filter) {
	t.Helper()
	f, at, e := Parse(s)
	if !equal(f, want) || at != 0 || e != api.OK {
		t.Errorf("Parse(%s) = %s, %d, error %d; expected %s", brief(s), brief(show(f)), at, e, brief(show(want)))
	}
}

func expectError(t *testing.T, s string, at int, e api.Errno) {
	t.Helper()
	f, gotAt, gotE := Parse(s)
	if !equal(f, api.Filter{}) || gotAt != at || gotE != e {
		t.Errorf("Parse(%s) = %s, %d, error %d; expected %d, error %d", brief(s), brief(show(f)), gotAt, gotE, at, e)
	}
}

// expectSyntax expects that the token behind a caret cannot stand there. If there is none, the text is truncated.
func expectSyntax(t *testing.T, marked string) {
	t.Helper()
	before, behind, found := strings.Cut(marked, "^")
	if !found {
		t.Fatalf("no caret in %q", marked)
	}
	if strings.TrimLeft(behind, " ") == "" {
		expectError(t, before+behind, len(before+behind), api.ErrTruncated)
		return
	}
	expectError(t, before+behind, len(before+behind)-len(strings.TrimLeft(behind, " ")), api.ErrSyntax)
}

// expectSyntaxOfAll expects it of texts with two spaces or a line feed between them.
func expectSyntaxOfAll(t *testing.T, marked string) {
	t.Helper()
	for line := range strings.Lines(marked) {
		for _, s := range strings.Split(strings.TrimSpace(line), "  ") {
			expectSyntax(t, s)
		}
	}
}

func TestP11_1Examples(t *testing.T) {
	expect(t, ".a + 1 | .", pipe(bin(fld(dot, "a"), "+", one), dot))
	expect(t, "1 - 2 - 3", bin(bin(one, "-", two), "-", three))
	expect(t, "1 // 2 // 3", alt(one, alt(two, three)))
	expect(t, "1 + . as $x | $x, 2", bin(one, "+", bind(dot, "x", comma(v("x"), two))))
	expect(t, "{a, \"b\": 1, $c, (.d): 2}", obj(str("a"), fld(dot, "a"), str("b"), one, str("c"), v("c"), fld(dot, "d"), two))
	expectError(t, "1 < 2 < 3", 6, api.ErrSyntax)
	expectError(t, "(", 1, api.ErrTruncated)
}

// simple are primaries and postfixes with their nodes.
func simple() map[string]api.Filter {
	return map[string]api.Filter{
		".": dot, "..": rec, ".a": fld(dot, "a"), ".if": fld(dot, "if"), ".\"a b\"": fld(dot, "a b"), ". \"\"": fld(dot, ""), ".\n#c\n\"a\"": fld(dot, "a"),
		"0": num(0), "9223372036854775807": num(math.MaxInt64), "\"\"": str(""), "\"a\\n\\u00e9\"": str("a\né"), "\"null\"": str("null"), "true": yes, "false": no, "null": none, "$x": v("x"), "$end": v("end"),
		"f": call("f"), "f(1)": call("f", one), "f(1; 2)": call("f", one, two), "f (.; 1, 2; g(3))": call("f", dot, comma(one, two), call("g", three)), "empty": call("empty"), "not": call("not"), "inputs": inputs, "inputs(1)": call("inputs", one), "inputs (1; 2)": call("inputs", one, two), "input": call("input"),
		"[]": arr(), "[1]": arr(one), "[1, 2]": arr(comma(one, two)), "[1 | 2]": arr(pipe(one, two)), "[[]]": arr(arr()), "{}": obj(), "{ }": obj(), "[ ]": arr(),
		"(1)": one, "((.))": dot, "(1, 2)": comma(one, two), "([])": arr(),
		"break $x": brk("x"), "break $break": brk("break"),
		".[]": each(dot), ".[1]": at(dot, one), ".[\"a\"]": at(dot, str("a")), ".[.[0]]": at(dot, at(dot, num(0))), ".[1:]": part(dot, one, none), ".[:2]": part(dot, none, two), ".[1:2]": part(dot, one, two), ".[1, 2: 3 | 4]": part(dot, comma(one, two), pipe(three, four)), ".[null:]": part(dot, none, none), ".[:null]": part(dot, none, none), ".?": try(dot),
		". .a": fld(dot, "a"), ". . \"a\"": fld(dot, "a"), "..[0]": at(rec, num(0)), "...a": fld(rec, "a"), ".. .a": fld(rec, "a"), ".. . \"a\"": fld(rec, "a"), "..?": try(rec), ".[-1]": at(dot, neg(one)), ".[-1:-2]": part(dot, neg(one), neg(two)),
		".a.b": fld(fld(dot, "a"), "b"), `.a."b".c`: fld(fld(fld(dot, "a"), "b"), "c"), ".a[].b": fld(each(fld(dot, "a")), "b"), ".a.b?": try(fld(fld(dot, "a"), "b")), ".a?.b": fld(try(fld(dot, "a")), "b"), ".a??": try(try(fld(dot, "a"))), ".a[1][2:][]?": try(each(part(at(fld(dot, "a"), one), two, none))),
		"1.a": fld(one, "a"), "1 .a": fld(one, "a"), "1 . \"a\"": fld(one, "a"), "\"a\".b": fld(str("a"), "b"), "\"a\"[0]": at(str("a"), num(0)), "$x.a": fld(v("x"), "a"), "$x[]": each(v("x")), "f.a": fld(call("f"), "a"), "f(1)[2]": at(call("f", one), two), "[1][0]": at(arr(one), num(0)), "[][]": each(arr()), "{}.a": fld(obj(), "a"), "(1)?": try(one), "(1, 2)[]": each(comma(one, two)), "null?": try(none), "true[]": each(yes), "inputs.a": fld(inputs, "a"), "break $x.a": fld(brk("x"), "a"), "if 1 then 2 end.a": fld(cond(one, two, dot), "a"),
		"(. as $x | 1).a": fld(bind(dot, "x", one), "a"), "(-1).a": fld(neg(one), "a"), "reduce . as $x (1; 2)[]": each(red("x", dot, one, two)), "foreach . as $x (1; 2)?": try(fore("x", dot, one, two, dot)), "(try 1)?": try(try(one)), "(try 1).a": fld(try(one), "a"),
	}
}

func TestP11_1PrimariesAndSuffixes(t *testing.T) {
	for s, want := range simple() {
		expect(t, s, want)
		expect(t, "("+s+")", want)
		expect(t, "( ("+s+"\n) )", want)
		expect(t, "["+s+"]", arr(want))
		expect(t, "-"+s, neg(want))
		expect(t, s+"|"+s, pipe(want, want))
		expect(t, s+" .a[1]", at(fld(want, "a"), one))
		expect(t, s+" as $x|$x", bind(want, "x", v("x")))
		expect(t, "{(1):"+s+"}", obj(one, want))
		expect(t, "if "+s+" then "+s+" else "+s+" end", cond(want, want, want))
		expect(t, "try "+s+" catch "+s, try(want, want))
		expect(t, "reduce "+s+" as $x ("+s+";"+s+")", red("x", want, want, want))
		expect(t, "foreach "+s+" as $x ("+s+";"+s+";"+s+")", fore("x", want, want, want, want))
		expect(t, ".["+s+":"+s+"]", part(dot, want, want))
		expect(t, "f("+s+";"+s+")", call("f", want, want))
		expect(t, "def f:"+s+";"+s, def("f", "", want, want))
		expect(t, "label $l|"+s, label("l", want))
	}
}

func TestP11_1Objects(t *testing.T) {
	for s, want := range map[string]api.Filter{
		"{a}": obj(str("a"), fld(dot, "a")), "{if}": obj(str("if"), fld(dot, "if")), "{\"a b\"}": obj(str("a b"), fld(dot, "a b")), "{\"\"}": obj(str(""), fld(dot, "")), "{$x}": obj(str("x"), v("x")), "{$if}": obj(str("if"), v("if")), "{inputs}": obj(str("inputs"), fld(dot, "inputs")),
		"{a:1}": obj(str("a"), one), "{if:1}": obj(str("if"), one), "{null:null}": obj(str("null"), none), "{true:1,false:2}": obj(str("true"), one, str("false"), two), "{reduce:reduce . as $x (1;2)}": obj(str("reduce"), red("x", dot, one, two)), "{\"if\":1}": obj(str("if"), one), "{(1):2}": obj(one, two), "{(\"a\"):2}": obj(str("a"), two), "{(.a,.b):2}": obj(comma(fld(dot, "a"), fld(dot, "b")), two), "{(1|2):3}": obj(pipe(one, two), three),
		"{a:1//2}": obj(str("a"), alt(one, two)), "{a:1 or 2}": obj(str("a"), or(one, two)), "{a:-1+2}": obj(str("a"), bin(neg(one), "+", two)), "{a:1==2}": obj(str("a"), bin(one, "==", two)), "{a:(1,2)}": obj(str("a"), comma(one, two)), "{a:(1|2)}": obj(str("a"), pipe(one, two)), "{a:{b:{c}}}": obj(str("a"), obj(str("b"), obj(str("c"), fld(dot, "c")))),
		"{a,a,a:1}": obj(str("a"), fld(dot, "a"), str("a"), fld(dot, "a"), str("a"), one), "{a:. as $x|1,2}": obj(str("a"), bind(dot, "x", comma(one, two))), "{a:. as $x|1,b}": obj(str("a"), bind(dot, "x", comma(one, call("b")))), "{b:2,a:label $x|1|2}": obj(str("b"), two, str("a"), label("x", pipe(one, two))), "{a:def f:1;f,2}": obj(str("a"), def("f", "", one, comma(call("f"), two))),
	} {
		expect(t, s, want)
		expect(t, s+"|.", pipe(want, dot))
		expect(t, "{a:"+s+"}", obj(str("a"), want))
	}
	expectSyntaxOfAll(t, `{^  {^,}  {a^  {a:^}  {a:1^  {a,^  {a,^}  {a,^,b}  {a^ b}  {a:1^|2}  {a:1^=2}  {a^|1}  {a^=1}  {$x^:1}  {$x^.a}  {(1)^}  {(1)^,a}  {(1):^}  {(1):2^:3}  {(^):1}  {(1^:1}  {(1^
		{^1}  {^1:2}  {^.a}  {^.}  {^[a]}  {^..}  {^-a:1}  {^{a}:1}  {a^.b}  {a^[0]}  {a^?}  {a^(1)}  {"a"^"b"}  {"a"^.b}  {a:1^:2}
		{a:^,b}  {a:^;}  {^;}  {^:1}  {a^]  {a^)  {a:1^)  {a:1^]  {^]  {^)  {}^}  {a^ as $x|1}  {try^ .a:1}  {if^ 1 then 2 end}  {a:. as $x|1,b^:2}  {a:label $l|1,b^:3}`)
}

func TestP11_1Control(t *testing.T) {
	for s, want := range map[string]api.Filter{
		"if 1 then 2 end": cond(one, two, dot), "if 1 then 2 else 3 end": cond(one, two, three), "if 1 then 2 elif 3 then 4 end": cond(one, two, cond(three, four, dot)), "if 1 then 2 elif 3 then 4 else 5 end": cond(one, two, cond(three, four, num(5))), "if 1 then 2 elif 3 then 4 elif 5 then 6 else 7 end": cond(one, two, cond(three, four, cond(num(5), num(6), num(7)))),
		"if 1, 2 then 3 | 4 else . = 1 end": cond(comma(one, two), pipe(three, four), upd(dot, "=", one)), "if if 1 then 2 end then if 3 then 4 else 1 end else if 2 then 3 end end": cond(cond(one, two, dot), cond(three, four, one), cond(two, three, dot)), "if . as $x | 1 then def f: 2; f else label $x | 3 end": cond(bind(dot, "x", one), def("f", "", two, call("f")), label("x", three)), "if 1 then 2 else . end": cond(one, two, dot),
		"try 1": try(one), "try 1 catch 2": try(one, two), "try .a.b[0]": try(at(fld(fld(dot, "a"), "b"), num(0))), "try .a?": try(try(fld(dot, "a"))), "try 1 catch .a?.b": try(one, fld(try(fld(dot, "a")), "b")), "try try 1": try(try(one)), "try try 1 catch 2": try(try(one, two)), "try try 1 catch 2 catch 3": try(try(one, two), three), "try 1 catch try 2 catch 3": try(one, try(two, three)), "try (try 1) catch 2": try(try(one), two),
		"try 1 + 2": bin(try(one), "+", two), "try 1 | 2": pipe(try(one), two), "try 1, 2": comma(try(one), two), "try 1 // 2": alt(try(one), two), "1 + try 2 * 3": bin(one, "+", bin(try(two), "*", three)), "try (-1)": try(neg(one)), "-try 1": neg(try(one)), "try f(1)": try(call("f", one)), "try 1 as $x | 2": bind(try(one), "x", two), "try 1 catch 2 as $x | 3": bind(try(one, two), "x", three), "try reduce . as $x (1; 2) catch .": try(red("x", dot, one, two), dot), "try break $x": try(brk("x")), "try if 1 then 2 end catch 3": try(cond(one, two, dot), three), "try (label $x | 1)": try(label("x", one)),
		"reduce . as $x (1; 2)": red("x", dot, one, two), "reduce .[] as $if (1, 2; 3 | 4)": red("if", each(dot), comma(one, two), pipe(three, four)), "reduce inputs as $x (0; . + $x)": red("x", inputs, num(0), bin(dot, "+", v("x"))), "reduce (1, 2) as $x (. as $y | 1; label $z | 2)": red("x", comma(one, two), bind(dot, "y", one), label("z", two)), "reduce try 1 as $x (2; 3)": red("x", try(one), two, three), "reduce reduce 1 as $x (2; 3) as $y (4; .)": red("y", red("x", one, two, three), four, dot), "reduce (1 as $x | 2) as $y (3; 4)": red("y", bind(one, "x", two), three, four), "reduce range(1; 2) as $x (3; 4)": red("x", call("range", one, two), three, four),
		"foreach . as $x (1; 2)": fore("x", dot, one, two, dot), "foreach . as $x (1; 2; 3)": fore("x", dot, one, two, three), "foreach .a[] as $x (1, 2; 3 | 4; . = 1)": fore("x", each(fld(dot, "a")), comma(one, two), pipe(three, four), upd(dot, "=", one)), "foreach . as $x (1; 2; .)": fore("x", dot, one, two, dot), "foreach foreach . as $x (1; 2) as $y (3; 4; 1)": fore("y", fore("x", dot, one, two, dot), three, four, one),
		"label $x | 1": label("x", one), "label $x | 1, 2 | 3": label("x", pipe(comma(one, two), three)), "label $label | label $x | break $label": label("label", label("x", brk("label"))), "1, label $x | 2, 3": comma(one, label("x", comma(two, three))), "1 | label $x | 2": pipe(one, label("x", two)), "1 + label $x | 2 + 3": bin(one, "+", label("x", bin(two, "+", three))), "-label $x | 1, 2": neg(label("x", comma(one, two))), "(label $x | 1), 2": comma(label("x", one), two), "label $x | 1 = 2": label("x", upd(one, "=", two)),
		"1 as $x | 2": bind(one, "x", two), "1 as $x | 2 as $y | 3": bind(one, "x", bind(two, "y", three)), "1 as $x | 2, 3 | 4": bind(one, "x", pipe(comma(two, three), four)), "1, 2 as $x | 3, 4": comma(one, bind(two, "x", comma(three, four))), "-1 as $x | 2, 3": neg(bind(one, "x", comma(two, three))), "1 * 2 as $x | 3 * 4": bin(one, "*", bind(two, "x", bin(three, "*", four))), "1 | 2 as $x | 3": pipe(one, bind(two, "x", three)), "(1 as $x | 2) as $y | 3": bind(bind(one, "x", two), "y", three), ".a[] as $as | 1": bind(each(fld(dot, "a")), "as", one), "1 = . as $x | 2 = 3": upd(one, "=", bind(dot, "x", upd(two, "=", three))), "1 < . as $x | 2 < 3": bin(one, "<", bind(dot, "x", bin(two, "<", three))), "[1 as $x | 2]": arr(bind(one, "x", two)), "f(1 as $x | 2; 3)": call("f", bind(one, "x", two), three), ".[1 as $x | 2:3]": part(dot, bind(one, "x", two), three),
		"def f: 1; 2": def("f", "", one, two), "def f: 1, 2; 3 | 4": def("f", "", comma(one, two), pipe(three, four)), "def f(a): 1; 2": def("f", "a", one, two), "def f($a): 1; 2": def("f", "$a", one, two), "def f(a; $b; c): 1; 2": def("f", "a $b c", one, two), "def f(a; a; $a; $if): 1; 2": def("f", "a a $a $if", one, two), "def f: def g: 1; 2; 3": def("f", "", def("g", "", one, two), three), "def f: 1; def g: 2; 3": def("f", "", one, def("g", "", two, three)), "1 + def f: 2; 3 + 4": bin(one, "+", def("f", "", two, bin(three, "+", four))), "(def f: 1; f), 2": comma(def("f", "", one, call("f")), two), "def inputs: 1; inputs": def("inputs", "", one, inputs), "def inputs(inputs): inputs; inputs(1)": def("inputs", "inputs", inputs, call("inputs", one)), "-def f: 1; 2, 3": neg(def("f", "", one, comma(two, three))), ".[def f: 1; 2: 3]": part(dot, def("f", "", one, two), three), "def f: . as $x | 1; 2": def("f", "", bind(dot, "x", one), two),
	} {
		expect(t, s, want)
		expect(t, "("+s+")", want)
		expect(t, " #c\n"+strings.ReplaceAll(s, " ", "\n\t#)\n "), want)
		expect(t, "1|"+s, pipe(one, want))
		expect(t, "["+s+"]?", try(arr(want)))
		expect(t, "f("+s+";"+s+")", call("f", want, want))
		expect(t, "def f:"+s+";"+s, def("f", "", want, want))
	}
}

func TestP11_1Errors(t *testing.T) {
	for _, s := range []string{"^", "  ^", "# c^", "\n#\n^", "\t1\r\n|^  ", "1 #(\n ^ 2"} {
		expectSyntax(t, s)
	}
	expectSyntaxOfAll(t, `1^ 2  .^1  .^ 1  .^ a  1 .^ 2  1 .^  . .^  . .^ 1  . .^ .a  ..^"a"  .. .^ .  .. .^  ..^a  .^ ..  ."a"^"b"  "a"^"b"  .a^ b  f^ g  f .^  f^ ..  f^ $x  $x^ $y  $x^ 1  1^(2)  f(1)^(2)  .^(1)  $x^(1)  .a^(1)  1^{}  1^..  1 .^
		f(^)  f(^;1)  f(1;^)  f(1;^;2)  f(1,^)  f(1^:2)  f(^  f(1^  f(1;^  f(1;2^]  f(1;2^  f(1)^)  f(1;2;^  f^;1
		^,  ^|  ^)  ^]  ^}  ^;  ^:  ^?  ^=  ^|=  ^==  ^//  ^+  ^*  ^and  ^or  ^as  ^then  ^elif  ^else  ^end  ^catch
		1^)  1^]  1^}  1^;  1^:  1^ then  1^ end  1^ catch 2  1^ else  1^ elif  1^ if 2 then 3 end  1^ try 2  1^ label $x | 2  1^ def f: 1; 2  1^ break $x  1^ reduce . as $x (1; 2)  1^ foreach . as $x (1; 2)  1^ true  1^ null  1^ "a"  1[2^
		(^  (^)  (1^  (1^]  (1^}  (1,^)  (1^;2)  (1^:2)  ((1)^  (1)^)  (1)^ 2  (1)^(2)  [^  [^,]  [1^  [1^)  [1^}  [1,^]  [1^;2]  [1^:2]  [^:]  [^;]  []^]  [1]^]
		.[^  .[^,]  .[1^  .[1^)  .[1:^  .[1:2^  .[1:2^:3]  .[:^]  .[:^:]  .[:^  .[:1^  .[:1^:2]  .[1^;2]  .[1:^,]  .[1:2,^]  .[^;]  .[1,^]  .[1:^)  .[1:^:]  .a[^)  .[]^]  .[^=1]  .[:^,1]  .[1:2^)
		1 |^  1 ,^  1 ,^ , 2  1 |^ | 2  1 =^  1 |=^  1 //^  1 or^  1 and^  1 ==^  1 <^  1 +^  1 -^  1 *^  -^  - -^  1 - -^  1 +^ + 2  1 *^ * 2  1 +^ * 2  1 -^ / 2  1 *^ , 2  1 or^ and 2  1 and^ or 2  1 //^ or 2  1 ==^ == 2  -^ | 1  -^)  -^ +1  -^ as
		1 = 2^ = 3  1 |= 2^ += 3  1 == 2^ == 3  1 < 2^ >= 3  1 + 2 < 3^ != 4  1 // 2 = 3 // 4^ = 5  1 = 2 | 3 = 4^ = 5  1 < 2 and 3 < 4^ < 5  1 = 2, 3 = 4^ |= 5
		1 as^  1 as^ x  1 as^ | 2  1 as^ .x  1 as^ [$x] | 2  1 as^ $ | 2  1 as $x^  1 as $x^ 2  1 as $x^, 2  1 as $x |^  1 as $x |^ | 2  1 as $x^ as $y | 2  1 + 2 as $x^ + 3  1 as $x^(1; 2)  -1 as $x^  1 as $x^.a  ^as $x | 1  1 |^ as $x  -^as $x | 1  (-1)^ $x | 1  1 + 2 as $x | 3 as^ 4  1 as^ "x" | 2  1 as $x^ // 2
		label^  label^ x  label^ | 1  label $x^  label $x^ 1  label $x^ as $y | 1  label $x |^  label $x |^)  (label $x | 1^  label $x^, 1  label $x | 1^ $x  label^ "x" | 1  break^  break^ x  break^ | 1  break $x^ $x  break $x^ 1  break^ "x"  break^ .x
		if^  if 1^  if^ then  if 1^ end  if 1^ else 2 end  if 1 then^  if 1 then^ end  if 1 then 2^  if 1 then 2^ then 3 end  if 1 then 2 elif^  if 1 then 2 elif 3^  if 1 then 2 elif 3^ end  if 1 then 2 elif 3^ else 4 end  if 1 then 2 elif 3 then 4^  if 1 then 2 elif 3 then^ end
		if 1 then 2 else^  if 1 then 2 else^ end  if 1 then 2 else 3^  if 1 then 2 else 3^ else 4 end  if 1 then 2 else 3^ elif 4 then 5 end  if 1 then 2 end^ end  if 1 then 2 end^ else 3 end  if 1 |^ end  if 1,^ then 2 end  if 1 then 2^) end  if 1 then 2 end^ 3  if 1 then 2 elif 3 then 4 end^ end
		try^  try^ -1  try^ catch 1  try^ label $x | 1  try^ def f: 1; 2  try^ | 1  try^ + 1  try 1 catch^  try 1 catch^ -1  try 1 catch^ catch 2  try 1 catch 2^ catch 3  try 1 catch^ label $x | 1  try 1 catch^ | 2  try (1^  try 1^ 2  try 1 + 2^ catch 3  try try^
		reduce^  reduce^ -1 as $x (1; 2)  reduce .^  reduce .^ | . as $x (1; 2)  reduce .^, . as $x (1; 2)  reduce .^ + 1 as $x (1; 2)  reduce .^ (1; 2)  reduce . as^  reduce . as^ x  reduce . as $x^  reduce . as $x^ | 1  reduce . as $x (^  reduce . as $x (^)  reduce . as $x (^; 1)  reduce . as $x (1^
		reduce . as $x (1^)  reduce . as $x (1;^  reduce . as $x (1;^)  reduce . as $x (1; 2^  reduce . as $x (1; 2^; 3)  reduce . as $x (1; 2)^ (3)  reduce 1 as $x^ as $y (1; 2)  reduce^ label $x | 1 as $y (1; 2)  reduce^ as $x (1; 2)  reduce . as $x^ [1; 2]  reduce . as $x (1; 2^]  reduce . as $x (1^: 2)
		foreach^  foreach^ -1 as $x (1; 2)  foreach .^  foreach . as^  foreach . as^ x  foreach . as $x^  foreach . as $x^ | 1  foreach . as $x (^  foreach . as $x (^)  foreach . as $x (1^)  foreach . as $x (1^  foreach . as $x (1;^  foreach . as $x (1;^)  foreach . as $x (1; 2^  foreach . as $x (1; 2;^  foreach . as $x (1; 2;^)
		foreach . as $x (1; 2; 3^  foreach . as $x (1; 2; 3^; 4)  foreach . as $x (1; 2; 3)^ (4)  foreach .^ (1; 2)  foreach .^ | 1 as $x (1; 2)  foreach . as $x (1; 2^]  foreach . as $x (1; 2; 3^]  foreach^ def f: 1; 2 as $x (1; 2)
		def^  def^: 1; 2  def^ if: 1; 2  def^ $f: 1; 2  def^ .f: 1; 2  def^ "f": 1; 2  def^ 1: 1; 2  def f^  def f^ 1; 2  def f^; 1  def f^[a]: 1; 2  def f(^  def f(^): 1; 2  def f(^1): 1; 2  def f(^if): 1; 2  def f(^.a): 1; 2  def f(^"a"): 1; 2  def f(^(a)): 1; 2
		def f(a^  def f(a^, b): 1; 2  def f(a^ b): 1; 2  def f(a^: b): 1; 2  def f(a;^  def f(a;^): 1; 2  def f(a;^; b): 1; 2  def f(a)^  def f(a)^ 1; 2  def f(a)^(b): 1; 2  def f(a^: 1; 2  def f(a;^if): 1; 2  def f(a^]: 1; 2  def f(a)^; 1
		def f:^  def f:^; 1  def f: 1^  def f: 1^ 2; 3  def f: 1^: 2  def f: 1;^  def f: 1;^; 2  def f: 1; 2^; 3  def f: def g: 1; 2^  def f: def g: 1; 2;^  (def f: 1;^)  def f: 1;^ | 2  def f: 1^) 2  def f:^: 1; 2  def f: 1; def^  def f: 1, 2;^ , 3`)
}

// operator is an operator between two operands. Those of higher levels bind first.
type operator struct {
	sign  string
	level int
	build func(a, b api.Filter) api.Filter
}

func operators() []operator {
	l := []operator{{"|", 0, pipe}, {",", 1, comma}, {"//", 3, alt}, {"or", 4, or}, {"and", 5, and}}
	add := func(level int, build func(api.Filter, string, api.Filter) api.Filter, signs string) {
		for _, sign := range strings.Fields(signs) {
			l = append(l, operator{sign, level, func(a, b api.Filter) api.Filter { return build(a, sign, b) }})
		}
	}
	add(2, upd, "= |= += -= *= /= %=")
	add(6, bin, "== != < <= > >=")
	add(7, bin, "+ -")
	add(8, bin, "* / %")
	return l
}

func TestP11_1PairsOfOperators(t *testing.T) {
	if len(operators()) != 23 {
		t.Fatal("operators are missing")
	}
	for _, x := range operators() {
		expect(t, ".a "+x.sign+" 1", x.build(fld(dot, "a"), one))
		expect(t, "-1 "+x.sign+" -2", x.build(neg(one), neg(two)))
		expect(t, "1 "+x.sign+" 2 as $x | 3, 4 | 1", x.build(one, bind(two, "x", pipe(comma(three, four), one))))
		for _, y := range operators() {
			s := "1 " + x.sign + " 2 " + y.sign + " 3"
			left, right := y.build(x.build(one, two), three), x.build(one, y.build(two, three))
			expect(t, "(1 "+x.sign+" 2) "+y.sign+" 3", left)
			expect(t, "1 "+x.sign+" (2 "+y.sign+" 3)", right)
			// Of two operators of one level, the left one binds first, but for "|" and "//".
			switch {
			case x.level == y.level && (x.level == 2 || x.level == 6):
				expectError(t, s, len("1 "+x.sign+" 2 "), api.ErrSyntax)
			case x.level < y.level || x.level == y.level && (x.level == 0 || x.level == 3):
				expect(t, s, right)
			default:
				expect(t, s, left)
			}
		}
	}
}

// A comparison or an update that no rule inside of a body can take is taken by the rule around it.
func TestP11_1OperatorsBehindBodies(t *testing.T) {
	expect(t, ". as $x | 1 < 2 < 3", bin(bind(dot, "x", bin(one, "<", two)), "<", three))
	expect(t, "label $x | 1 = 2 |= 3", upd(label("x", upd(one, "=", two)), "|=", three))
	expect(t, "def f: 1; 2 == 3 != 4", bin(def("f", "", one, bin(two, "==", three)), "!=", four))
	expect(t, "1 + . as $x | 2 < 3 < 4", bin(bin(one, "+", bind(dot, "x", bin(two, "<", three))), "<", four))
	expect(t, "-label $x | 1 < 2 < 3 | 4", pipe(bin(neg(label("x", bin(one, "<", two))), "<", three), four))
	expect(t, "1, . as $x | 2 = 3 = 4, 1", comma(comma(one, upd(bind(dot, "x", upd(two, "=", three)), "=", four)), one))
	expect(t, ". as $x | . as $y | 1 < 2 < 3 < 4", bin(bind(dot, "x", bin(bind(dot, "y", bin(one, "<", two)), "<", three)), "<", four))
	expectSyntaxOfAll(t, `. as $x | 1 < 2 < 3^ < 4  label $x | 1 = 2 = 3^ = 4  1 < . as $x | 2 < 3^ < 4  1 = label $x | 2 = 3^ = 4  1 < def f: 1; 2 < 3^ < 4  {a: . as $x | 1 = 2^ = 3}`)
	expect(t, "{a: . as $x | 1 < 2 < 3}", obj(str("a"), bin(bind(dot, "x", bin(one, "<", two)), "<", three)))
}

// Signs and keywords that are the values of strings, names of variables or fields are none.
func TestP11_1KindsOfTokens(t *testing.T) {
	for _, x := range operators() {
		expectError(t, "1 \""+x.sign+"\" 2", 2, api.ErrSyntax)
	}
	for _, s := range []string{"1 ^\"as\" $x | 2", "(1^\")\"", "1 ^\"|\" 2", ".\"[\"^]", "f ^\"(\"", "if 1 ^\"then\" 2 end", "1 ^$as $x | 2", "$x ^$or 1"} {
		expectSyntax(t, s)
	}
	for s, want := range map[string]api.Filter{
		"\"(\"": str("("), "\"if\"": str("if"), "\".\"": str("."), ".\"(\"": fld(dot, "("), ".or or .and and .as as $as | $if": or(fld(dot, "or"), and(fld(dot, "and"), bind(fld(dot, "as"), "as", v("if")))), "\"null\".null": fld(str("null"), "null"), "{\"(\", \")\": 1}": obj(str("("), fld(dot, "("), str(")"), one), "$break": v("break"), "{\"$x\"}": obj(str("$x"), fld(dot, "$x")), "try .catch catch .try": try(fld(dot, "catch"), fld(dot, "try")),
	} {
		expect(t, s, want)
	}
}

// The spaces between tokens matter only where they separate them.
func TestP11_1Blanks(t *testing.T) {
	expect(t, "1-2", bin(one, "-", two))
	expect(t, "1--2", bin(one, "-", neg(two)))
	expect(t, "1 - - - 2", bin(one, "-", neg(neg(two))))
	expect(t, ".a|=1", upd(fld(dot, "a"), "|=", one))
	expectError(t, ".a| =1", 4, api.ErrSyntax)
	expect(t, "1?//2", alt(try(one), two))
	expectError(t, "..?..", 3, api.ErrSyntax)
	expect(t, ".a.b", fld(fld(dot, "a"), "b"))
	expect(t, ".a\n.b", fld(fld(dot, "a"), "b"))
	expectError(t, ". a", 2, api.ErrSyntax)
}
