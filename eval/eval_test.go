package eval_test

import (
	"fmt"
	"slices"
	"strings"
	"testing"

	"ndjq/api"
	"ndjq/check"
	"ndjq/desugar"
	"ndjq/eval"
	"ndjq/fparse"
	"ndjq/fprint"
	"ndjq/jsonparse"
	"ndjq/jsonwrite"
)

// The nodes of the tests are written with these functions, or as texts.

func n(op int, subs ...api.Filter) api.Filter { return api.Filter{Op: op, Subs: subs} }

func named(op int, name string, subs ...api.Filter) api.Filter {
	return api.Filter{Op: op, Text: name, Subs: subs}
}

func call(name string, l ...api.Filter) api.Filter { return named(api.OpCall, name, l...) }

func def(name, params string, body, rest api.Filter) api.Filter {
	return api.Filter{Op: api.OpDef, Text: name, Params: strings.Fields(params), Subs: []api.Filter{body, rest}}
}

func literal(v api.Value) api.Filter { return api.Filter{Op: api.OpLiteral, Value: v} }

func variable(name string) api.Filter { return named(api.OpVar, name) }

var dot = n(api.OpIdentity)

func num(i int64) api.Value { return api.Value{Kind: api.Number, Int: i} }

func str(s string) api.Value { return api.Value{Kind: api.String, Str: s} }

func arr(l ...api.Value) api.Value { return api.Value{Kind: api.Array, Elems: l} }

func obj(keys []string, l ...api.Value) api.Value {
	return api.Value{Kind: api.Object, Keys: keys, Elems: l}
}

// identical compares all fields of two values; a nil slice and an empty one are equal.
func identical(v, w api.Value) bool {
	return v.Kind == w.Kind && v.Int == w.Int && v.Str == w.Str && slices.Equal(v.Keys, w.Keys) && slices.EqualFunc(v.Elems, w.Elems, identical)
}

func sameOutcome(a, b api.Outcome) bool {
	return slices.EqualFunc(a.Outs, b.Outs, identical) && a.End == b.End && identical(a.Err, b.Err)
}

func brief(s string) string {
	if len(s) > 600 {
		return fmt.Sprintf("%s.. of %d bytes", s[:600], len(s))
	}
	return s
}

// show writes an outcome: the outputs, and then ! and the error, or .. if the fuel was used up.
func show(o api.Outcome) string {
	var l []string
	for _, v := range o.Outs {
		l = append(l, jsonwrite.Text(v))
	}
	switch o.End {
	case api.EndDone:
	case api.EndError:
		l = append(l, "!"+jsonwrite.Text(o.Err))
	case api.EndFuel:
		l = append(l, "..")
	default:
		l = append(l, fmt.Sprint("end ", o.End))
	}
	return strings.Join(l, " ")
}

func showFilter(f api.Filter) string {
	if s := fprint.Print(f); s != "" {
		return brief(s)
	}
	return brief(fmt.Sprintf("%+v", f))
}

// core returns the core of a text.
func core(t *testing.T, text string) api.Filter {
	t.Helper()
	f, at, e := fparse.Parse(text)
	if e != api.OK {
		t.Fatalf("Parse(%s): error %d at %d", brief(text), e, at)
	}
	if place, e := check.Check(f); e != api.OK {
		t.Fatalf("Check(%s): error %d at %v", brief(text), e, place)
	}
	f, _, _ = desugar.Core(f)
	return f
}

func parseValue(t *testing.T, text string) api.Value {
	t.Helper()
	v, at, e := jsonparse.Parse(text)
	if e != api.OK {
		t.Fatalf("Parse(%s): error %d at %d", brief(text), e, at)
	}
	return v
}

// expectNode expects the outcome of f on v, which is written as by show, and the same of the second statement. It returns the number of visits.
func expectNode(t *testing.T, f api.Filter, v api.Value, want string) int {
	t.Helper()
	return expectWith(t, f, nil, nil, v, api.MaxFuel, want)
}

func expectWith(t *testing.T, f api.Filter, names []string, values []api.Value, v api.Value, fuel int, want string) int {
	t.Helper()
	o, e := eval.Eval(f, names, values, v, fuel)
	if got := show(o); e != api.OK || got != want {
		t.Errorf("%s of %s: %s, error %d, not %s", showFilter(f), brief(jsonwrite.Text(v)), brief(got), e, brief(want))
		return 0
	}
	return expectStated(t, f, names, values, v, fuel)
}

// expectStated expects what the second statement says of valid arguments.
func expectStated(t *testing.T, f api.Filter, names []string, values []api.Value, v api.Value, fuel int) int {
	t.Helper()
	got, e := eval.Eval(f, names, values, v, fuel)
	visits, ev := eval.Visits(f, names, values, v, fuel)
	want, wantVisits := statedOutcome(f, names, values, v, fuel)
	if e != api.OK || ev != api.OK || !sameOutcome(got, want) || visits != wantVisits {
		t.Errorf("%s of %s with the fuel %d: %s in %d visits, errors %d and %d, not %s in %d", showFilter(f), brief(jsonwrite.Text(v)), fuel, brief(show(got)), visits, e, ev, brief(show(want)), wantVisits)
	}
	if !eval.Closed(f, names) {
		t.Errorf("%s is not closed", showFilter(f))
	}
	return visits
}

// expect expects the outcome of a text.
func expect(t *testing.T, text, input, want string) {
	t.Helper()
	f, v := core(t, text), parseValue(t, input)
	if visits := expectNode(t, f, v, want); visits < 2000 {
		expectFuels(t, f, v)
	}
}

// expectFuels expects that an evaluation with less fuel is a beginning of one with enough fuel.
func expectFuels(t *testing.T, f api.Filter, v api.Value) {
	t.Helper()
	whole, _ := eval.Eval(f, nil, nil, v, api.MaxFuel)
	visits, _ := eval.Visits(f, nil, nil, v, api.MaxFuel)
	for fuel := 0; fuel <= visits+1; fuel = fuel + 1 + fuel/50 {
		o, e := eval.Eval(f, nil, nil, v, fuel)
		made, _ := eval.Visits(f, nil, nil, v, fuel)
		if fuel >= visits {
			if e != api.OK || !sameOutcome(o, whole) || made != visits {
				t.Errorf("%s with the fuel %d of %d: %s, %d visits, error %d, not %s", showFilter(f), fuel, visits, show(o), made, e, show(whole))
			}
			continue
		}
		isBeginning := len(o.Outs) <= len(whole.Outs) && slices.EqualFunc(o.Outs, whole.Outs[:len(o.Outs)], identical)
		if e != api.OK || !isBeginning || o.End != api.EndFuel || !identical(o.Err, api.Value{}) || made != fuel || len(o.Outs) > made {
			t.Errorf("%s with the fuel %d of %d: %s, %d visits, error %d, but %s with enough", showFilter(f), fuel, visits, show(o), made, e, show(whole))
		}
	}
}

// row is a text, its input, and its outcome.
type row struct{ text, input, want string }

func expectRows(t *testing.T, rows []row) {
	t.Helper()
	for _, x := range rows {
		expect(t, x.text, x.input, x.want)
	}
}

func TestExamples(t *testing.T) {
	expectRows(t, []row{
		{"(1, 2) + (10, 20)", "null", "11 21 12 22"},
		{`[.[] | try (if . == 0 then error("zero") else 12 / . end) catch .]`, "[3, 0, 4]", `[4,"zero",3]`},
		{"1 as $x | . , $x", "7", "7 1"},
		{"path(.a[0])", "null", `["a",0]`},
		{"path(1)", "null", `!"path error"`},
		{"label $f | 1, break $f, 2", "null", "1"},
		{`try error("x") // 5`, "null", "5"},
	})
	if visits := expectNode(t, core(t, "1 as $x | . , $x"), num(7), "7 1"); visits != 5 {
		t.Errorf("example 3 makes %d visits", visits)
	}
}

func TestP15_2Values(t *testing.T) {
	expectRows(t, []row{
		{".", `{"a":[1]}`, `{"a":[1]}`}, {"1", "2", "1"}, {`"é", null, true, false`, "2", `"é" null true false`},
		{"[]", "1", "[]"}, {"[.]", "1", "[1]"}, {"[1, empty, ., [2]]", "5", "[1,5,[2]]"}, {"[empty]", "5", "[]"}, {`[1, error("x"), 2]`, "5", `!"x"`}, {"[.[]]", "[1,2]", "[1,2]"}, {"[.[]?], 1", "3", "[] 1"},
		{"{}", "1", "{}"}, {"{a: 1, b: .}", "5", `{"a":1,"b":5}`}, {"{b: 1, a: 2, b: 3}", "5", `{"a":2,"b":3}`}, {"{a: (1, 2), b: (3, 4)}", "5", `{"a":1,"b":3} {"a":1,"b":4} {"a":2,"b":3} {"a":2,"b":4}`},
		{`{(("a", "b")): (1, 2), ("c"): 3}`, "null", `{"a":1,"c":3} {"a":2,"c":3} {"b":1,"c":3} {"b":2,"c":3}`}, {`{("a", "b"): 1, ("b", "a"): 2}`, "null", `{"a":1,"b":2} {"a":2} {"b":2} {"a":2,"b":1}`},
		{"{a: empty, b: 1}", "null", ""}, {"{(empty): 1}", "null", ""}, {"{(1): 2}", "null", `!"type error"`}, {`{(1): error("x")}`, "null", `!"type error"`}, {`{a: error("x"), (1): 2}`, "null", `!"x"`},
		{`{("a", 1): 2}`, "null", `{"a":2} !"type error"`}, {`{a: (1, 2), (null): 3}`, "null", `!"type error"`},
		{"{a, b: .b, (.b): .a}", `{"a":1,"b":"c"}`, `{"a":1,"b":"c","c":1}`}, {"1 as $x | {$x}", "null", `{"x":1}`},
		{"-.", "5", "-5"}, {"-(1, 2)", "5", "-1 -2"}, {"-.", "-9223372036854775808", "-9223372036854775808"}, {"-.", "[]", `!"type error"`}, {"-(1, null, 2)", "5", `-1 !"type error"`}, {"- -.", "5", "5"},
		{"(1, 2) - (10, 20)", "0", "-9 -19 -8 -18"}, {". + ., . * ., . / 2, . % 2, . == 7, . != 7, . < 8, . <= 7, . > 7, . >= 8", "7", "14 49 3 1 true false true true false false"},
		{"1 / 0", "0", `!"division by zero"`}, {"1 + {}", "0", `!"type error"`}, {`. * 5000`, `"a"`, `!"limit exceeded"`}, {`error("a") + error("b")`, "0", `!"a"`}, {`empty + error("b")`, "0", ""}, {`1 + error("b")`, "0", `!"b"`}, {`(1, error("a")) + (2, 3)`, "0", `3 4 !"a"`},
	})
}

func TestP15_2Steps(t *testing.T) {
	expectRows(t, []row{
		{".a", `{"a":1}`, "1"}, {".a", `{"b":1}`, "null"}, {".a", "null", "null"}, {".a", "[1]", `!"type error"`}, {".[0]", `{"a":1}`, `!"type error"`}, {".[0, -1, 9]", "[1,2]", "1 2 null"},
		{"(.a, .b)[0, 1]", `{"a":[1,2],"b":[3,4]}`, "1 2 3 4"}, {"(.a, .b)[empty]", "{}", ""}, {".a[.b]", `{"a":[1,2],"b":1}`, "2"}, {".[{start: 1, end: null}]", "[1,2,3]", "[2,3]"}, {`(.a, error("x"))[.b, 0]`, `{"a":[1,2],"b":1}`, `2 1 !"x"`}, {`error("x")[error("y")]`, "0", `!"x"`}, {".[[1]]", "[1]", `!"type error"`},
		{".[1:]", "[1,2,3]", "[2,3]"}, {".[:-1]", `"aéb"`, `"aé"`}, {".[(0, 1):(2, 3)]", "[1,2,3]", "[1,2] [1,2,3] [2] [2,3]"}, {"(.a, .b)[0:(1, 2)]", `{"a":"xy","b":"zw"}`, `"x" "xy" "z" "zw"`}, {`.["a":]`, "[1]", `!"type error"`}, {".[1:2]", "7", `!"type error"`}, {`.["a":]`, "7", `!"type error"`}, {".[0:1]", "null", "null"}, {`.[error("x"):error("y")]`, "[1]", `!"x"`}, {`.[0:error("y")]`, "[1]", `!"y"`}, {".[.[0]:.[1]]", "[1,2,3]", "[2]"},
		{".[]", "[1,[2],null]", "1 [2] null"}, {".[]", `{"b":1,"a":2}`, "2 1"}, {".[]", "[]", ""}, {".[]", "{}", ""}, {".[]", "1", `!"type error"`}, {".[]", "null", `!"type error"`}, {".[]", `"ab"`, `!"type error"`}, {"(.[], .)[]", "[[1,2],[3]]", "1 2 3 [1,2] [3]"}, {".[][]", "[[1],2,[3]]", `1 !"type error"`}, {".[][]?", "[[1],2,[3]]", "1"}, {".[] | .[]?", "[[1],2,[3]]", "1 3"},
	})
}

func TestP15_2Order(t *testing.T) {
	expectRows(t, []row{
		{"1 | 2", "0", "2"}, {"(1, 2) | ., . + 10", "0", "1 11 2 12"}, {"empty | error", "0", ""}, {"(1, error(.), 2) | . + 1", "7", "2 !7"}, {"(1, 2) | (3, 4) | 5", "0", "5 5 5 5"},
		{"1, 2, .", "3", "1 2 3"}, {"(1, 2), (3, 4)", "0", "1 2 3 4"}, {"1, (2, 3)", "0", "1 2 3"}, {`1, error("x"), 2`, "0", `1 !"x"`}, {"empty, empty", "0", ""},
		{"(null, 1, false, 2) // 3", "0", "1 2"}, {"(null, false) // (3, 4)", "0", "3 4"}, {"empty // 3", "0", "3"}, {"null // empty", "0", ""}, {"1 // 2 // 3", "0", "1"}, {"null // false // 3", "0", "3"}, {"null // false", "0", "false"},
		{`(null, error("x"), 1) // 3`, "0", "3"}, {`(1, error("x"), 2) // 3`, "0", "1"}, {`(1 // 2) | error`, "0", "!1"}, {`null // error("x")`, "0", `!"x"`}, {`error("x") // error("y")`, "0", `!"y"`}, {`1 // error("x")`, "0", "1"}, {".a // .b", `{"b":2}`, "2"}, {`[(1, 2) // 3 | if . == 2 then error("x") else . end]`, "0", `!"x"`}, {`[.[] | (.a // "d")]`, `[{"a":1},{},{"a":false}]`, `[1,"d","d"]`},
		{"(false, error(1)) // 2 | ., 3", "0", "2 3"}, {"((1, 2) // 3) // error", "0", "1 2"}, {"try ((1 // 2) | error) catch [.]", "0", "[1]"}, {"(1 | error) // 2 | error", "0", "!2"}, {"((1 // 2) | error) // 3", "0", "3"},
		{"(true, false, null, 0) or (true, false, 1)", "0", "true true false true true false true true"}, {"(true, false, null, 0) and (true, null, 1)", "0", "true false true false false true false true"},
		{`true or error("x"), (false and error("x"))`, "0", "true false"}, {"false or empty, (true and empty)", "0", ""}, {`error("x") or true`, "0", `!"x"`}, {`error("x") and false`, "0", `!"x"`}, {`false or error("x")`, "0", `!"x"`}, {`. or .[0], (.[1] and .)`, "[1,2]", "true true"}, {"(empty or 1), (empty and 1)", "0", ""},
		{"if . then 1 else 2 end", "0", "1"}, {"if (true, false, null) then (1, 2) else (., 3) end", "0", "1 2 0 3 0 3"}, {"if . then 1 end", "false", "false"}, {"if empty then 1 else 2 end", "0", ""}, {`if error("x") then 1 else 2 end`, "0", `!"x"`}, {`if true then 1 else error("x") end, if false then error("x") else 2 end`, "0", "1 2"}, {"if . > 1 then . else 5 end", "3", "3"},
		{"(1, 2) as $x | $x, $x + 10", "0", "1 11 2 12"}, {". as $x | 5 | [., $x]", "7", "[5,7]"}, {"1 as $x | 2 as $x | $x", "0", "2"}, {"1 as $x | (2 as $x | $x), $x", "0", "2 1"}, {"1 as $x | [., $x]", "7", "[7,1]"}, {"empty as $x | 1", "0", ""}, {`(1, error("x")) as $x | $x`, "0", `1 !"x"`}, {"1 as $x | 2 as $y | (3 as $x | [$x, $y]), [$x, $y]", "0", "[3,2] [1,2]"}, {"(1, 2) as $x | (3, 4) as $y | [$x, $y]", "0", "[1,3] [1,4] [2,3] [2,4]"}, {". as $x | (. + 1) as $y | [$x, $y]", "5", "[5,6]"},
	})
}

func TestP15_2Try(t *testing.T) {
	expectRows(t, []row{
		{"try error", "5", ""}, {"try error catch .", "5", "5"}, {"try error(null) catch .", "5", "null"}, {"try 1 catch 2", "5", "1"}, {`try (1, error("x"), 2) catch .`, "5", `1 "x"`}, {`try (1, error("x"), 2), 3`, "5", "1 3"}, {`try error("x") catch (1, ., 2)`, "5", `1 "x" 2`}, {`try error("x") catch error("y")`, "5", `!"y"`}, {"try empty catch 1", "5", ""},
		{"try (1 / 0) catch .", "5", `"division by zero"`}, {"try (1 + {}) catch .", "5", `"type error"`}, {"try .[] catch .", "5", `"type error"`}, {`[.[] | try error catch .]`, "[1,[2],null]", "[1,[2],null]"},
		// The errors of a consumer do not concern it.
		{"(try (1, 2) catch 5) | error", "0", "!1"}, {"try (1, 2) | error", "0", "!1"}, {"try (try 1 | error) catch [.]", "0", "[1]"}, {"try (try (1, 2) catch 5 | error) catch [.]", "0", "[1]"}, {`try (1, error("x")) catch . | ., 10`, "0", `1 10 "x" 10`}, {`(try 1 catch 2) as $x | error($x)`, "0", "!1"}, {`reduce (try (1, 2) catch 3) as $x (0; error($x))`, "0", "!1"}, {`{a: (try 1 catch 2), b: error("x")}`, "0", `!"x"`}, {`(try (1, 2) catch 3) + error("x")`, "0", `!"x"`},
		{`try ((try (1, error("x")) catch .) | if . == 1 then ., 2 else error("y") end) catch [.]`, "0", `1 2 ["y"]`}, {"def f(g): try g catch \"in\"; f(1, 2) | error", "0", "!1"}, {"def f(g): try g catch [.]; f(error(1)), f(f(error(2)) | error)", "0", "[1] [[2]]"},
		{`try (try error("x") catch error("y")) catch [.]`, "0", `["y"]`}, {`(try error("x") catch .) | [.]`, "0", `["x"]`}, {".a?, .b", "[1]", `!"type error"`}, {".a?, .[0]", "[1]", "1"}, {".[]?", "[1,2]", "1 2"},
		{`[(1, 2, 3) | try (if . == 2 then error("two") else . end) catch .]`, "0", `[1,"two",3]`}, {`try [1, error("x")] catch .`, "0", `"x"`}, {"try (try (try error(1) catch error(2)) catch error(3)) catch [.]", "0", "[3]"},
		{"try error({a: [1]}) catch .a", "0", "[1]"}, {`error`, `{"a":[1]}`, `!{"a":[1]}`}, {"error(1, 2)", "0", "!1"}, {"error(empty)", "0", ""}, {"error(null)", "0", "!null"}, {"1, error(null)", "0", "1 !null"}, {`error(error("x"))`, "0", `!"x"`}, {"error(. + 1)", "5", "!6"},
	})
}

func TestP15_2Labels(t *testing.T) {
	expectRows(t, []row{
		{"label $f | 1", "0", "1"}, {"label $f | break $f", "0", ""}, {"label $f | 1, break $f, 2", "0", "1"}, {"(label $f | 1, break $f, 2), 3", "0", "1 3"}, {"label $f | (1, 2, 3) | if . == 2 then break $f else . end", "0", "1"}, {"label $f | (1, break $f, 2) | ., 10", "0", "1 10"},
		{"label $a | (label $b | 1, break $b, 2), 3", "0", "1 3"}, {"label $a | (label $b | 1, break $a, 2), 3", "0", "1"}, {"label $f | (label $f | 1, break $f, 2), 3, break $f, 4", "0", "1 3"}, {"label $a | label $b | (break $b, 1), 2", "0", ""},
		// A break is no error.
		{"label $f | try (1, break $f) catch 5", "0", "1"}, {"label $f | (break $f) // 5", "0", ""}, {"label $f | (1, break $f) // 5", "0", "1"}, {"label $f | [1, break $f]", "0", ""}, {"label $f | reduce (1, 2) as $x (0; break $f)", "0", ""}, {"label $f | (1, 2) as $x | $x, break $f", "0", "1"}, {"[label $f | .[] | if . > 2 then break $f else . end]", "[1,2,3,1]", "[1,2]"}, {"label $f | try (1, error(2)) catch break $f, 3", "0", "1"}, {"label $f | {a: (1, break $f)}, 2", "0", `{"a":1}`}, {"label $f | try (try break $f catch 1) catch 2", "0", ""},
		{"label $f | foreach (1, 2, 3) as $x (0; . + $x; if . > 2 then ., break $f else . end)", "0", "1 3"}, {"(label $f | 1, break $f), (label $f | 2, break $f)", "0", "1 2"}, {"label $f | try error(1) catch (., break $f, 2), 3", "0", "1"},
		// The label of a function is that of the call, and that of a parameter the one where it was given.
		{"def f: label $l | if . > 2 then ., break $l, 9 else ., (. + 1 | f), . end; 0 | f", "null", "0 1 2 3 2 1 0"}, {"def f(g): label $l | g, 7; label $l | f(break $l), 8", "0", ""}, {"def f(g): (label $l | g, 7), 9; (label $l | f(1, break $l), 8), 5", "0", "1 5"}, {"def f(g): label $l | (g | ., break $l); label $l | f(1, 2), f(3, 4)", "0", "1 3"},
		{"def f($n; g): label $l | if $n > 0 then f($n - 1; g, break $l), 5 else g end, 6; f(2; 1)", "0", "1"}, {"def f($n; g): label $l | (if $n > 0 then f($n - 1; g, break $l), 5 else g end), 6; f(1; 1), 7", "0", "1 7"}, {"def f(g): def h: g; label $l | h, 7; label $l | 1, f(break $l), 8", "0", "1"},
		{"first(.[] | select(. > 1))", "[1,2,3]", "2"}, {"[limit(3; repeat(1))]", "0", "[0,1,1]"}, {`first(1, error("x"))`, "0", "1"}, {`isempty(1, error("x")), isempty(empty)`, "0", "false true"}, {`limit(1; 1, error("x"))`, "0", "1"}, {`[limit(0; error("x"))]`, "0", "[]"}, {"[first(range(10; 0)), nth(2; range(5))]", "0", "[2]"},
	})
}

func TestP15_2States(t *testing.T) {
	expectRows(t, []row{
		{"reduce .[] as $x (0; . + $x)", "[1,2,3]", "6"}, {"reduce (1, 2) as $x (5; [., $x])", "0", "[[5,1],2]"}, {"reduce (1, 2) as $x (0, 10; . + $x)", "0", "3 13"}, {"reduce empty as $x (5, 6; 1)", "0", "5 6"}, {"reduce (1, 2) as $x (0; ., . + $x)", "0", "3"}, {"reduce (1, 2) as $x (0; . + $x, .)", "0", "0"}, {"reduce (1, 2) as $x (7; empty)", "0", "null"}, {"reduce (1, 2) as $x (7; if $x == 1 then empty else [., $x] end)", "0", "[null,2]"}, {"reduce 1 as $x (empty; error)", "0", ""},
		{`reduce error("a") as $x (error("b"); 1)`, "0", `!"b"`}, {`reduce error("a") as $x (1; 1)`, "0", `!"a"`}, {`reduce (1, 2) as $x (0; error($x))`, "0", "!1"}, {`reduce empty as $x (1, error("b"), 2; 1)`, "0", `1 !"b"`}, {"reduce . as $x (1; [., $x])", "5", "[1,5]"}, {"reduce .[] as $x (.; . + [$x])", "[1,2]", "[1,2,1,2]"}, {"1 as $x | reduce (2, 3) as $x ($x; . * 10 + $x) | [., $x]", "0", "[123,1]"}, {"reduce (1, 2) as $x (0; . + $x) | ., 5", "0", "3 5"}, {"[reduce (1, 2) as $x (0; reduce (3, 4) as $y (.; . + $x * $y))]", "0", "[21]"},
		{"foreach (1, 2, 3) as $x (0; . + $x; .)", "0", "1 3 6"}, {"foreach (1, 2, 3) as $x (0; . + $x)", "0", "1 3 6"}, {"foreach (1, 2) as $x (0; (. + $x, . + 10 * $x); [$x, .])", "0", "[1,1] [1,10] [2,12] [2,30]"}, {"foreach (1, 2, 3) as $x (0; if $x == 2 then empty else . + $x end; .)", "0", "1 4"}, {"foreach (1, 2) as $x (0, 100; . + $x; [$x, .])", "0", "[1,1] [2,3] [1,101] [2,103]"}, {"foreach (1, 2) as $x (0; . + $x; empty)", "0", ""}, {"foreach (1, 2) as $x (0; . + $x; (., $x))", "0", "1 1 3 2"}, {"foreach empty as $x (0; 1; 2)", "0", ""}, {"foreach 1 as $x (empty; 1; 2)", "0", ""},
		{`foreach (1, error("x")) as $x (0; . + $x; .)`, "0", `1 !"x"`}, {`foreach error("a") as $x (error("b"); 1; 2)`, "0", `!"b"`}, {`foreach (1, 2) as $x (0; 5; error(.))`, "0", "!5"}, {`foreach (1, 2) as $x (0; error($x); .)`, "0", "!1"}, {"foreach . as $x (1; [., $x]; [., $x])", "5", "[[1,5],5]"}, {"1 as $x | (foreach 2 as $x ($x; . + $x; $x)), $x", "0", "2 1"}, {"foreach (1, 2) as $x (0; . + $x; . * 10) | ., 5", "0", "10 5 30 5"},
	})
}

func TestP15_2Functions(t *testing.T) {
	expectRows(t, []row{
		{"def f: 1; f", "0", "1"}, {"def f: . + 1; f | f", "5", "7"}, {"def f: 1, 2; f, f", "0", "1 2 1 2"}, {"def f: 1; def g: f + 1; g + f", "0", "3"}, {"def f: 1; def g: f; def f: 2; g, f", "0", "1 2"}, {"def f: if . > 3 then . else (. + 1 | f) end; f", "0", "4"}, {"def f: def g: 1; g; def g: 2; f, g", "0", "1 2"}, {"(def f: 1; f), (def f: 2; f)", "0", "1 2"}, {"def f: 1; (def f: 2; f), f", "0", "2 1"},
		{"def f: 1; def f(a): 2; def f(a; b): 3; f, f(0), f(0; 0)", "0", "1 2 3"}, {"def length: 7; length", "[1]", "7"}, {"def length(f): f; length(8), length", "[1]", "8 1"}, {"def empty: 1; def error: 2; def path(f): 3; empty, error, path(4)", "0", "1 2 3"}, {"def map(f): f; map(5)", "0", "5"}, {"def not: 5; try not, (true | not)", "0", "5 5"},
		{"1 as $x | def f: $x; 2 as $x | f", "0", "1"}, {"def f(g): 1 as $x | g; 2 as $x | f($x)", "0", "2"}, {"def f(g): 5 | g; f(. + 1)", "0", "6"}, {"def f(g): g, g; f(1, 2)", "0", "1 2 1 2"}, {"def f(g; h): h, g; f(1; 2)", "0", "2 1"}, {"def f(g): 1; f(error)", "0", "1"}, {"def f(g): def h: g; h; 1 as $x | f($x)", "0", "1"}, {"def a(f): f | f; def b(f): a(f + 1); 0 | b(. * 2 + 1)", "0", "6"}, {"def f(g): def f: 9; g; def g: 4; f(g), (def f: 5; f)", "0", "4 5"}, {"def g: 1; def f(g): g; f(2), g", "0", "2 1"}, {"def f(f): f; f(1)", "0", "1"}, {"def f(x): if . > 2 then x else (. + 1 | f(x, .)) end; f(.)", "0", "3 3 3 3"},
		{"def f($a): $a; f(1, 2)", "0", "1 2"}, {"def f($a; $b): [$a, $b]; f(1, 2; 3, 4)", "0", "[1,3] [1,4] [2,3] [2,4]"}, {"def f($a): 9 | $a; 5 | f(. + 1)", "0", "6"}, {"def f($a; g; $b): [$a, g, $b]; f(1, 2; ., 5; 3, 4)", "0", "[1,0,5,3] [1,0,5,4] [2,0,5,3] [2,0,5,4]"}, {"def f($a): 1; f(error)", "0", "!0"}, {"def f($a): 7; [f(1, empty, 2)]", "0", "[7,7]"}, {"def f($a; $b): 1; f(empty; error)", "0", ""}, {`def f($a; $b): 1; f(1, error("x"); 2)`, "0", `1 !"x"`},
		{"def f($a; $a): $a; f(1; 2), [f(1, 2; 3, 4)]", "0", "2 [3,4,3,4]"}, {"def f(a; a): a; f(1; 2)", "0", "2"}, {"def f($a; a): [$a, a]; f(1; 2)", "0", "[1,2]"}, {"def f(a; $a): [$a, a]; f(1; 2)", "0", "[2,1]"}, {"def f($a; $b): $a as $b | $b; f(1; 2)", "0", "1"}, {"def f($a): def g($a): $a; [$a, g(5)]; f(1)", "0", "[1,5]"}, {"def f($a): 1 as $a | $a; 7 as $a | [f(2), $a]", "0", "[1,7]"},
		{"def f($a; g): if $a > 0 then f($a - 1; g + $a) else g end; f(3; 10)", "0", "16"}, {"def f(a; b; c; d; e; g; h; i): [a, b, c, d, e, g, h, i]; f(1; 2; 3; 4; 5; 6; 7; 8)", "0", "[1,2,3,4,5,6,7,8]"}, {"def f($a; $b; $c; $d): [$a, $b, $c, $d]; f(1; 2; 3; 4)", "0", "[1,2,3,4]"}, {"def f(a; b): (a as $x | b), a; 1 as $x | f($x, 2; $x + 5)", "0", "6 6 1 2"},
		// The filter that was given for a parameter may be evaluated again before an evaluation of it has ended.
		{"def f(g): g | g; f((. + 1) as $x | $x, 10 * $x)", "1", "3 30 21 210"}, {"def f(g): g as $a | g as $b | [$a, $b]; f((1, 2) as $x | $x + 10)", "0", "[11,11] [11,12] [12,11] [12,12]"}, {"def f(g): [g, g | . + 1]; f(.[] | if . > 1 then f(empty), . else . end)", "[1,2]", `!"type error"`}, {"def f(g): if . > 2 then [g] else (. + 1 | f(g, .)) end; f(.)", "0", "[3,3,3,3]"},
	})
}

func TestP15_2Paths(t *testing.T) {
	expectRows(t, []row{
		{"path(.)", "1", "[]"}, {"path(.a, .b)", "{}", `["a"] ["b"]`}, {"path(.a | .b)", "null", `["a","b"]`}, {"path(.a.b[0])", "null", `["a","b",0]`}, {"path(.[-1])", "[1]", "[-1]"}, {"path(.[1:2])", "[1]", `[{"end":2,"start":1}]`}, {"path(.[:-1][0])", `[[1]]`, `[{"end":-1,"start":null},0]`}, {"path(.[{start: 1, end: null}])", "[1]", `[{"end":null,"start":1}]`}, {"path((.a, .b)[0, 1])", "{}", `["a",0] ["a",1] ["b",0] ["b",1]`}, {"path(.[(0, 1):(2, 3)])", "null", `[{"end":2,"start":0}] [{"end":3,"start":0}] [{"end":2,"start":1}] [{"end":3,"start":1}]`},
		{"path(.[])", "[1,2]", "[0] [1]"}, {"path(.[])", `{"b":1,"a":2}`, `["a"] ["b"]`}, {"path(.[][0])", `{"b":[],"a":null}`, `["a",0] ["b",0]`}, {"path(.a[])", `{"a":[5]}`, `["a",0]`}, {"path(.[])", "[]", ""}, {"path(.[])", "5", `!"type error"`}, {"path(..)", `{"a":[1]}`, `[] ["a"] ["a",0]`}, {"[paths]", `{"a":[1]}`, `[["a"],["a",0]]`},
		{"path(empty)", "0", ""}, {"path(error)", "5", "!5"}, {`path(error("x"))`, "5", `!"x"`}, {"path(error(1 + .))", "5", "!6"}, {`path(getpath(["a", 0]))`, "null", `["a",0]`}, {`path(.a | getpath(["b"], [], ["c", 0]))`, "null", `["a","b"] ["a"] ["a","c",0]`}, {`path(getpath([1 + 1]))`, "[]", "[2]"}, {`path(getpath(.a))`, `{"a":["a",1]}`, `["a",1]`}, {`path(getpath(["a"]))`, "[]", `!"type error"`}, {`path(getpath("a"))`, "{}", `!"type error"`}, {`path(getpath(["a"]) | .b)`, `{"a":{"b":1}}`, `["a","b"]`}, {"path(getpath([[]]))", "null", `!"type error"`},
		{"path(if .a then .b else .c end)", `{"a":1}`, `["b"]`}, {"path(if 1 == 2 then .b else .c end)", "{}", `["c"]`}, {"path(if (true, false) then . else .c end)", "{}", `[] ["c"]`}, {"path(.a // .b)", `{"a":1}`, `["a"]`}, {"path(.a // .b)", `{"b":1}`, `["b"]`}, {"path((.a, .b, .c) // .d)", `{"a":1,"c":2}`, `["a"] ["c"]`}, {"path(1 // .b)", "{}", `["b"]`}, {"path(.x | (.a // .b))", `{"x":{"b":1}}`, `["x","b"]`}, {"path(null // 1)", "{}", `!"path error"`},
		{"path(try .a catch .b)", "{}", `["a"]`}, {`path(try error({a: 1}) catch .)`, "{}", "[]"}, {`path(.x | try error({a: 1}) catch .a)`, "{}", `["a"]`}, {"path(.x | (.a?, .[0]?))", `{"x":[]}`, `["x",0]`}, {"path(try 1 catch .)", "{}", "[]"}, {"path(.x, 1)", "{}", `["x"] !"path error"`}, {"try path(.x, 1) catch .", "{}", `["x"] "path error"`},
		{"path(label $f | .a, break $f, .b)", "{}", `["a"]`}, {"path(. as $x | .[$x | keys | .[]])", `{"a":1,"b":2}`, `["a"] ["b"]`}, {"path(.x | . as $k | .[$k])", `{"x":"y"}`, `!"type error"`}, {"path((1, 2) as $i | .[$i])", "null", "[1] [2]"}, {"path(.a | 1 as $x | .)", "null", `["a"]`},
		{"path(def f: .a; f | f)", "null", `["a","a"]`}, {"path(def f(g): g | g; f(.a, .b))", "null", `["a","a"] ["a","b"] ["b","a"] ["b","b"]`}, {`path(def f($k): .[$k]; f("a", "b"))`, "null", `["a"] ["b"]`}, {`path(.a | def f($k; g): g | .[$k]; f(. == null; .c))`, "null", `!"type error"`}, {`path(.a | def f($k; g): g | .[$k]; f([.] | length; .c))`, "null", `["a","c",1]`}, {"path(first(.a, .b))", "null", `["a"]`}, {"path(select(.a))", `{"a":1}`, "[]"}, {"path(recurse(if . < 2 then .a else empty end))", "1", `[] !"type error"`}, {"path(limit(2; .[]))", "[1,2,3]", `!"path error"`}, {"path(last(.[]))", "[1,2,3]", `!"path error"`},
		{`path(reduce ("a", "b") as $k (.; .[$k]))`, "null", `["a","b"]`}, {"path(reduce 1 as $x (.a; empty))", "{}", "[]"}, {"path(reduce (1, 2) as $x (.a; if $x == 1 then empty else .b end))", "{}", `["b"]`}, {"path(reduce empty as $x (.a, .b; .c))", "{}", `["a"] ["b"]`}, {"path(reduce 1 as $x (.a; .b, .c))", "null", `["a","c"]`}, {"path(.x | reduce 1 as $x (.; .a))", "null", `["x","a"]`}, {"path(reduce (1 + 1) as $x (.; .[$x]))", "null", "[2]"}, {"path(reduce 1 as $x (0; .))", "null", `!"path error"`}, {"path(reduce 1 as $x (.; 0))", "null", `!"path error"`},
		{`path(foreach ("a", "b") as $k (.; .[$k]; .))`, "null", `["a"] ["a","b"]`}, {`path(foreach ("a", "b") as $k (.x; .[$k]; .z))`, "null", `["x","a","z"] ["x","a","b","z"]`}, {"path(foreach (1, 2) as $k (.; .[$k], .a?; .[0]?))", "null", `[1,0] ["a",0] ["a",2,0] ["a","a",0]`}, {"path(foreach 1 as $k (.; .; 0))", "null", `!"path error"`}, {"path(foreach (1 + 1) as $k (.; .; .[$k]))", "null", "[2]"},
		{"path(.[1 + 1])", "null", "[2]"}, {"path(.[length - 1])", "[1,2]", "[1]"}, {"path(.[-1:][.[0]])", "[0,2]", `[{"end":null,"start":-1},0]`}, {"path(.a[.b])", `{"a":[1],"b":0}`, `["a",0]`}, {"path(.a | .b[.c])", `{"a":{"b":[1],"c":0}}`, `["a","b",0]`}, {"path(.a)", "[]", `!"type error"`}, {"path(.[0])", "{}", `!"type error"`}, {`path(.["a":])`, "null", `!"type error"`}, {"[path(.a)], path(.b)", "null", `[["a"]] ["b"]`}, {"path(.a) | path(.[0])", "null", "[0]"}, {"path(.a) as $p | getpath($p)", `{"a":5}`, "5"},
	})
	for _, s := range []string{
		"1", "null", "$x", "[]", "[.]", "{}", "{a: .}", "-.", ". or .", ". and .", ". + .", ". == .", "length", "not", "type", "keys", "elements", "add", "sort", `has("a")`, "path(.)", "setpath([]; 1)", "delpaths([])", "contains(.)", "flatten(1)", "[error]", "{a: error}", "-error", "error or .", "error and .", "error + .", "has(error)", "path(error)", "setpath(error; error)", "min_keys(error)",
	} {
		expect(t, "1 as $x | path("+s+")", "null", `!"path error"`)
		expect(t, "1 as $x | [path(.a, try ("+s+`) catch getpath(["c"]))]`, "null", `!"type error"`)
	}
}

func TestP15_2Builtins(t *testing.T) {
	expectRows(t, []row{
		{"empty", "1", ""}, {"not", "null", "true"}, {"[.[] | not]", `[null,false,true,0,"",[],{}]`, "[true,true,false,false,false,false,false]"}, {"[.[] | type]", `[null,false,true,0,"",[],{}]`, `["null","boolean","boolean","number","string","array","object"]`},
		{"length, keys, elements, add", `{"b":1,"a":2}`, `2 ["a","b"] [2,1] 3`}, {"any, all, reverse", "[1,null]", "true false [null,1]"}, {"to_entries", `{"a":1}`, `[{"key":"a","value":1}]`}, {"from_entries", `[{"key":"a","value":1}]`, `{"a":1}`}, {"transpose", "[[1,2],[3]]", "[[1,3],[2,null]]"},
		{"explode, ascii_downcase, ascii_upcase, tojson", `"aB"`, `[97,66] "ab" "AB" "\"aB\""`}, {"implode", "[97,233]", `"aé"`}, {"trim, length", `" a "`, `"a" 3`}, {"tostring, tojson", "[1]", `"[1]" "[1]"`}, {"tonumber, fromjson", `"12"`, "12 12"}, {"fromjson", `"[1,{}]"`, "[1,{}]"}, {"tonumber", `"1.5"`, `!"number error"`}, {"tonumber", `"a"`, `!"syntax error"`}, {"fromjson", `"["`, `!"syntax error"`}, {"implode", "[-1]", `!"range error"`}, {"fromjson", `"` + strings.Repeat("[", 40) + `"`, `!"depth exceeded"`},
		{`has("a", "b")`, `{"a":1}`, "true false"}, {"contains([1], [3])", "[1,2]", "true false"}, {"flatten(1, 0)", "[1,[2,[3]]]", "[1,2,[3]] [1,[2,[3]]]"}, {"flatten(-1)", "[]", `!"range error"`}, {"sort, group, unique, min, max", "[2,1,2]", "[1,2,2] [[1],[2,2]] [1,2] 1 2"}, {"sort_keys([1, 0, 0]), group_keys([1, 0, 0]), unique_keys([1, 0, 0]), min_keys([1, 0, 0]), max_keys([1, 0, 1])", "[2,1,3]", "[1,3,2] [[1,3],[2]] [1,2] 1 3"}, {"sort_keys([])", "[2,1,3]", `!"range error"`}, {"sort", "1", `!"type error"`},
		{`startswith("a"), endswith("a"), ltrimstr("a"), rtrimstr("a"), split("b"), indices("a")`, `"aba"`, `true true "ba" "ab" ["a","a"] [0,2]`}, {`join("-", "")`, "[1,null,2]", `"1--2" "12"`}, {`getpath(["a"], ["a", 0])`, `{"a":[1]}`, "[1] 1"}, {`delpaths([["a"]], [])`, `{"a":[1]}`, `{} {"a":[1]}`}, {`setpath(["a"], ["b"]; 1, 2)`, "{}", `{"a":1} {"a":2} {"b":1} {"b":2}`}, {`setpath(error("x"); error("y"))`, "{}", `!"x"`}, {`setpath([]; error("y"))`, "{}", `!"y"`}, {"setpath(.a; .b)", `{"a":["a"],"b":5}`, `{"a":5,"b":5}`}, {`has(error("x"))`, "{}", `!"x"`}, {"has(empty)", "{}", ""}, {`has("a", 1)`, "{}", `false !"type error"`}, {"length", "true", `!"type error"`}, {"path(.a, .b | .c)", "null", `["a","c"] ["b","c"]`},
	})
}

// The builtins of chapter 15 are those of package check without the prelude.
func TestP15_1Builtins(t *testing.T) {
	prelude := map[string]bool{}
	for _, d := range desugar.Prelude() {
		prelude[signature(d.Text, len(d.Params))] = true
	}
	stated := statedBuiltins()
	for _, s := range []string{"empty/0", "error/0", "error/1", "path/1"} {
		stated[s] = nil
	}
	for _, s := range append(check.Builtins(), "foo/0", "foo/1", "error/2", "empty/1", "path/0", "path/2", "setpath/1", "setpath/3", "length/1", "has/0", "has/2", "not/1", "../0", "|=/2", "/0", "/1", "/2") {
		name, params, _ := strings.Cut(s, "/")
		if strings.HasPrefix(s, "/") {
			name = ""
		}
		f := call(name, slices.Repeat([]api.Filter{dot}, int(params[len(params)-1]-'0'))...)
		_, isBuiltin := stated[s]
		if got := eval.Closed(f, nil); got != isBuiltin || isBuiltin && prelude[s] {
			t.Errorf("a call of %s is closed: %v", s, got)
		}
		delete(stated, s)
	}
	if len(stated) > 0 {
		t.Errorf("package check has no %v", stated)
	}
}

// Each builtin is a function of the input and of the values of its parameters, which are evaluated on the input.
func TestP15_2BuiltinsOfAllValues(t *testing.T) {
	var inputs []api.Value
	for _, s := range []string{"null", "false", "true", "-3", "0", "2", `""`, `"ab"`, `"12"`, `"[1]"`, "[]", "[2,1]", "[[1],[2,[3]]]", `["b","a"]`, `[["a"]]`, "{}", `{"a":1,"b":[2]}`, `[{"key":"x","value":5}]`} {
		inputs = append(inputs, parseValue(t, s))
	}
	for what, of := range statedBuiltins() {
		name, params, _ := strings.Cut(what, "/")
		for i, v := range inputs {
			for j, w := range inputs {
				x := inputs[(i+j)%len(inputs)]
				args := []api.Filter{literal(w), literal(x)}[:int(params[0]-'0')]
				want, e := of([]api.Value{v, w, x}[:1+len(args)])
				outcome := api.Outcome{Outs: []api.Value{want}}
				if e != api.OK {
					outcome = api.Outcome{End: api.EndError, Err: fail(e).err}
				}
				if visits := expectNode(t, call(name, args...), v, show(outcome)); visits != 1+len(args) {
					t.Errorf("%s made %d visits", what, visits)
				}
				if len(args) == 0 {
					break
				}
			}
		}
	}
}

// unchecked returns the node of a text of core nodes with variables that are not known.
func unchecked(t *testing.T, text string) api.Filter {
	t.Helper()
	f, at, e := fparse.Parse(text)
	if e != api.OK {
		t.Fatalf("Parse(%s): error %d at %d", brief(text), e, at)
	}
	return f
}
