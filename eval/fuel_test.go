package eval_test

import (
	"math"
	"strings"
	"testing"

	"ndjq/api"
	"ndjq/eval"
	"ndjq/value"
)

// The visits are counted by hand: one for each node at the first question, and one before each output of OpIterate.
func TestP15_2Visits(t *testing.T) {
	for _, x := range []struct {
		text, input, want string
		visits            int
	}{
		{".", "5", "5", 1}, {"7", "5", "7", 1}, {"[]", "5", "[]", 1}, {"[.]", "5", "[5]", 2}, {"[., .]", "5", "[5,5]", 4}, {"{}", "5", "{}", 1}, {"{a: 1}", "5", `{"a":1}`, 3}, {"-1", "5", "-1", 2},
		{".a", "null", "null", 3}, {".[0, 1]", "null", "null null", 5}, {"(., .)[0]", "null", "null null", 6}, {".[1:]", "null", "null", 4}, {"{a: (1, 2), b: 3}", "5", `{"a":1,"b":3} {"a":2,"b":3}`, 9}, {`{("a", 1): .}`, "5", `{"a":5} !"type error"`, 5},
		{".[]", "[]", "", 2}, {".[]", "[7,8]", "7 8", 4}, {".[]", "7", `!"type error"`, 2}, {"(., .)[]", "[7]", "7 7", 6}, {".[][]", "[[7],[8,9]]", "7 8 9", 8}, {"label $f | .[] | ., break $f", "[7,8]", "7", 8}, {"first(.[])", "[7,8]", "7", 10},
		{"1 | 2", "5", "2", 3}, {"(1, 2) | .", "5", "1 2", 6}, {"1, 2", "5", "1 2", 3}, {"empty | 1", "5", "", 2}, {"1 // 2", "5", "1", 2}, {"null // 2", "5", "2", 3}, {"(1, error) // 2", "5", "1", 4}, {"error // 2", "5", "2", 3}, {"(null, 1) // 2", "5", "1", 4},
		{"true or error", "5", "true", 2}, {"false or 1", "5", "true", 3}, {"(true, false) or 1", "5", "true true", 5}, {"false and error", "5", "false", 2}, {"true and 1", "5", "true", 3}, {"if true then 1 else 2 end", "5", "1", 3}, {"if (true, false) then 1 else 2 end", "5", "1 2", 6},
		{"1 + 2", "5", "3", 3}, {"(1, 2) + (10, 20)", "5", "11 21 12 22", 10}, {"try 1 catch error", "5", "1", 2}, {"try error catch 1", "5", "1", 3}, {"try error", "5", "", 2}, {"try error(1) catch .", "5", "1", 4},
		{"reduce (1, 2) as $x (0; . + $x)", "5", "3", 11}, {"reduce empty as $x (0; 1)", "5", "0", 3}, {"reduce 1 as $x (0, 0; 1)", "5", "1 1", 8}, {"foreach (1, 2) as $x (0; $x; .)", "5", "1 2", 9}, {"foreach 1 as $x (0; empty; .)", "5", "", 4}, {"foreach empty as $x (0; 1; 2)", "5", "", 3},
		{"label $f | break $f", "5", "", 2}, {"label $f | 1, break $f, 2", "5", "1", 5}, {"1 as $x | $x", "5", "1", 3}, {"(1, 2) as $x | $x, $x", "5", "1 1 2 2", 10},
		{"def f: 1; f", "5", "1", 3}, {"def f(g): g, g; f(1)", "5", "1 1", 7}, {"def f($a): $a; f(1)", "5", "1", 4}, {"def f($a; $b): 7; f(1, 2; 3, 4)", "5", "7 7 7 7", 15}, {"def f($a; g): g; f(1, 2; 3)", "5", "3 3", 9}, {"def f($a; $b): 7; f(1; 2)", "5", "7", 5}, {"def f(g): 1; f(error)", "5", "1", 3},
		{"empty", "5", "", 1}, {"error", "5", "!5", 1}, {"error(1, 2)", "5", "!1", 3}, {"not", "5", "false", 1}, {"length", "5", "5", 1}, {"has(0, 1)", "[7]", "true false", 4}, {"setpath([]; 1, 2)", "5", "1 2", 5}, {"setpath([], []; 1, 2)", "5", "1 2 1 2", 10}, {"path(.)", "5", "[]", 2}, {"path(.a[0])", "null", `["a",0]`, 6}, {"path(.[])", "[7,8]", "[0] [1]", 5}, {"path(1)", "5", `!"path error"`, 2}, {"path([error])", "5", `!"path error"`, 2}, {"path(has(error))", "5", `!"path error"`, 2}, {"path(getpath([]))", "5", "[]", 3}, {"path(error)", "5", "!5", 2}, {"path(def f(g): g; f(.a))", "null", `["a"]`, 7},
		{"-(1, 2)", "5", "-1 -2", 4}, {"-error", "5", "!5", 2}, {"[1, error, 2]", "5", "!5", 5}, {"{a: error, b: 1}", "5", "!5", 3}, {`.["a":error]`, "5", "!5", 4}, {"error[0]", "5", "!5", 2},
	} {
		expect(t, x.text, x.input, x.want)
		if visits := expectNode(t, core(t, x.text), parseValue(t, x.input), x.want); visits != x.visits+defined(x.text) {
			t.Errorf("%s makes %d visits, not %d", x.text, visits, x.visits)
		}
	}
}

// defined returns the number of definitions of the prelude around the core of a text, each of which is visited.
func defined(text string) int {
	if strings.HasPrefix(text, "first") {
		return 1
	}
	return 0
}

// If as many visits as the fuel have been made, the evaluation ends before the next one.
func TestP15_2Fuel(t *testing.T) {
	for _, x := range []struct {
		text, input string
		wants       []string // for the fuels from 0
	}{
		{".", "5", []string{"..", "5", "5"}}, {"1, 2", "0", []string{"..", "..", "1 ..", "1 2", "1 2"}}, {"[1, 2]", "0", []string{"..", "..", "..", "..", "[1,2]"}}, {".[]", "[7,8]", []string{"..", "..", "..", "7 ..", "7 8"}}, {".[]", "[]", []string{"..", "..", ""}}, {"1, error(2)", "0", []string{"..", "..", "1 ..", "1 ..", "1 !2"}},
		{"try error(1) catch 2", "0", []string{"..", "..", "..", "..", "2"}}, {"label $f | break $f", "0", []string{"..", "..", ""}}, {"(1, 2) // 3", "0", []string{"..", "..", "..", "1 ..", "1 2"}}, {"(null, 1) // 3", "0", []string{"..", "..", "..", "..", "1"}}, {"try . catch 1", "0", []string{"..", "..", "0"}}, {"reduce .[] as $x (0; $x)", "[1]", []string{"..", "..", "..", "..", "..", "..", "1"}},
		{"(1, 2) | ., 5", "0", []string{"..", "..", "..", "..", "..", "1 ..", "1 5 ..", "1 5 ..", "1 5 ..", "1 5 2 ..", "1 5 2 5"}}, {"path(.[])", "[7]", []string{"..", "..", "..", "..", "[0]"}}, {"error", "5", []string{"..", "!5"}},
	} {
		f, v := core(t, x.text), parseValue(t, x.input)
		for fuel, want := range x.wants {
			visits := expectWith(t, f, nil, nil, v, fuel, want)
			if isLast := fuel == len(x.wants)-1; visits > fuel || visits < fuel && !isLast {
				t.Errorf("%s with the fuel %d makes %d visits", x.text, fuel, visits)
			}
		}
	}
	for _, s := range []string{"def f: f; f", "def f: 1 + f; f", "def f: f | f; f", "def f: try f catch f; f", "def f: f // f; f", "def f: [f]; f", "def f: (., 1) | f; f", "def f: reduce f as $x (f; f); f", "def f(g): f(g | g); f(.)", "def f($a): f($a + 1); f(0)", "def f: label $l | f; f", "def f: {a: f}; f", "def f: f as $x | 1; f", "def f: try error(1) catch f; f", "def f: .[]? | f; [[]] | f, f | f", "def f: path(f); f", "path(def f: f; f)", "until(false; .)", "last(repeat(1))"} {
		f := core(t, s)
		o, _ := eval.Eval(f, nil, nil, api.Value{}, api.MaxFuel)
		whole, e := eval.Visits(f, nil, nil, api.Value{}, api.MaxFuel)
		if e != api.OK || show(o) != endless(s) || endless(s) == ".." && whole != api.MaxFuel {
			t.Errorf("%s: %s, %d visits, error %d", s, show(o), whole, e)
		}
		for _, fuel := range []int{0, 1, 2, 3, 999} {
			expectStated(t, f, nil, nil, api.Value{}, fuel)
		}
	}
}

// endless returns the outcome of a text that uses up its fuel, but for those that do not.
func endless(text string) string {
	switch text {
	case "def f: .[]? | f; [[]] | f, f | f":
		return ""
	case "def f: path(f); f":
		return `!"path error"`
	}
	return ".."
}

// With the greatest fuel, outputs are yielded until it is used up.
func TestP15_2ManyOutputs(t *testing.T) {
	for _, x := range []struct {
		text  string
		count int
	}{
		{"def f: 1, f; f", 33333}, {"repeat(.)", 16666}, {"range(0; 100000)", 9090}, {"def f: (1, 2), f; f", 39999}, {"def f: .[], f; f", 0},
	} {
		o, e := eval.Eval(core(t, x.text), nil, nil, num(1), api.MaxFuel)
		want := api.EndFuel
		if x.count == 0 {
			want = api.EndError
		}
		if e != api.OK || len(o.Outs) != x.count || o.End != want {
			t.Errorf("%s: %d outputs, end %d, error %d", x.text, len(o.Outs), o.End, e)
		}
	}
}

func TestP15_2Variables(t *testing.T) {
	for _, x := range []struct {
		text   string
		names  []string
		values []api.Value
		want   string
	}{
		{"[$a, $b]", []string{"a", "b"}, []api.Value{num(1), num(2)}, "[1,2]"}, {"$a", []string{"a", "b", "a"}, []api.Value{num(1), num(2), num(3)}, "3"}, {"[$a, $b]", []string{"b", "a", "b", "b"}, []api.Value{num(1), num(2), num(3), arr(num(4))}, "[2,[4]]"}, {".", []string{"a"}, []api.Value{num(1)}, "null"}, {"1", []string{"", "x y", "\xff", "$a", "a/0"}, []api.Value{num(1), num(2), num(3), num(4), num(5)}, "1"},
		{"def f: $a; 5 as $a | [f, $a]", []string{"a"}, []api.Value{num(1)}, "[1,5]"}, {"def f($a): [$a, $b]; f($a + 1)", []string{"a", "b"}, []api.Value{num(1), num(7)}, "[2,7]"}, {"reduce ($a, 2) as $a ($a; [., $a])", []string{"a"}, []api.Value{num(1)}, "[[1,1],2]"}, {"label $a | $a, break $a", []string{"a"}, []api.Value{num(1)}, "1"}, {"def a: 3; [a, $a]", []string{"a"}, []api.Value{num(1)}, "[3,1]"}, {"path(.[$a])", []string{"a"}, []api.Value{num(1)}, "[1]"}, {"{$if}", []string{"if"}, []api.Value{num(1)}, `{"if":1}`},
	} {
		f := unchecked(t, x.text)
		expectWith(t, f, x.names, x.values, api.Value{}, api.MaxFuel, x.want)
		if eval.Closed(f, nil) != (x.text == "." || x.text == "1") {
			t.Errorf("%s without names is closed: %v", x.text, eval.Closed(f, nil))
		}
	}
}

func TestP15_2Errors(t *testing.T) {
	bad := api.Value{Kind: 9}
	unsorted := obj([]string{"b", "a"}, num(1), num(2))
	closed, open := dot, variable("x")
	for _, x := range []struct {
		f      api.Filter
		names  []string
		values []api.Value
		v      api.Value
		fuel   int
		want   api.Errno
	}{
		{closed, nil, nil, num(1), 0, api.OK}, {closed, nil, nil, num(1), api.MaxFuel, api.OK}, {open, []string{"x"}, []api.Value{num(1)}, num(1), 5, api.OK},
		{closed, nil, nil, num(1), -1, api.ErrRange}, {closed, nil, nil, num(1), api.MaxFuel + 1, api.ErrRange}, {closed, nil, nil, num(1), math.MinInt, api.ErrRange}, {closed, nil, nil, num(1), math.MaxInt, api.ErrRange}, {closed, []string{"x"}, nil, num(1), 5, api.ErrRange}, {closed, nil, []api.Value{num(1)}, num(1), 5, api.ErrRange}, {closed, []string{"x"}, []api.Value{num(1), num(2)}, num(1), 5, api.ErrRange},
		{open, nil, nil, num(1), 5, api.ErrInvalid}, {open, []string{"y"}, []api.Value{num(1)}, num(1), 5, api.ErrInvalid}, {closed, nil, nil, bad, 5, api.ErrInvalid}, {closed, nil, nil, unsorted, 5, api.ErrInvalid}, {closed, []string{"x"}, []api.Value{bad}, num(1), 5, api.ErrInvalid}, {closed, []string{"x", "x"}, []api.Value{bad, num(1)}, num(1), 5, api.ErrInvalid}, {closed, []string{"y", "x"}, []api.Value{num(1), unsorted}, num(1), 5, api.ErrInvalid}, {n(0), nil, nil, num(1), 5, api.ErrInvalid}, {n(api.OpRecurse), nil, nil, num(1), 5, api.ErrInvalid}, {literal(bad), nil, nil, num(1), 5, api.ErrInvalid}, {literal(bad), nil, nil, num(1), 0, api.ErrInvalid},
		{open, nil, nil, bad, -1, api.ErrRange}, {n(0), nil, nil, bad, api.MaxFuel + 1, api.ErrRange}, {open, []string{"x"}, nil, bad, 5, api.ErrRange}, {n(0), nil, []api.Value{bad}, num(1), 5, api.ErrRange},
	} {
		o, e := eval.Eval(x.f, x.names, x.values, x.v, x.fuel)
		visits, ev := eval.Visits(x.f, x.names, x.values, x.v, x.fuel)
		if e != x.want || ev != x.want || e != api.OK && (!sameOutcome(o, api.Outcome{}) || visits != 0) {
			t.Errorf("%s with %d names, %d values and the fuel %d: %s, %d visits, errors %d and %d, not %d", showFilter(x.f), len(x.names), len(x.values), x.fuel, show(o), visits, e, ev, x.want)
		}
	}
	if value.Valid(bad) || value.Valid(unsorted) {
		t.Error("the values that are not valid are valid")
	}
}
