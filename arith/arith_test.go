package arith

import (
	"math"
	"slices"
	"strconv"
	"strings"
	"testing"

	"ndjq/api"
	"ndjq/jsonparse"
	"ndjq/jsonwrite"
)

// operators are those of the chapter, in its order.
func operators() []string {
	return strings.Fields("+ - * / % == != < <= > >=")
}

// Names of errors in the tables, which are no JSON texts.
const (
	invalid    = "ErrInvalid"
	limit      = "ErrLimit"
	outOfRange = "ErrRange"
	wrongType  = "ErrType"
	byZero     = "ErrZero"
	greatest   = "9223372036854775807"
	least      = "-9223372036854775808"
)

func errorName(e api.Errno) string {
	switch e {
	case api.ErrInvalid:
		return invalid
	case api.ErrLimit:
		return limit
	case api.ErrRange:
		return outOfRange
	case api.ErrType:
		return wrongType
	case api.ErrZero:
		return byZero
	}
	return "error " + strconv.Itoa(int(e))
}

// outcome is the text of a result, or the name of an error with which all fields of the value are zero.
func outcome(v api.Value, e api.Errno) string {
	if e == api.OK {
		return jsonwrite.Text(v)
	}
	if v.Kind != 0 || v.Int != 0 || v.Str != "" || len(v.Keys) != 0 || len(v.Elems) != 0 {
		return errorName(e) + " with a value"
	}
	return errorName(e)
}

func binary(op string, a, b api.Value) string {
	return outcome(Binary(op, a, b))
}

// parse returns the value of a JSON text that the tests give.
func parse(t *testing.T, s string) api.Value {
	t.Helper()
	v, _, e := jsonparse.Parse(s)
	if e != api.OK {
		t.Fatal("no JSON text:", s)
	}
	return v
}

// brief shows both ends of a text.
func brief(s string) string {
	if len(s) > 80 {
		s = s[:40] + " .. " + s[len(s)-40:]
	}
	return strconv.QuoteToASCII(s)
}

type operation struct {
	a, op, b, want string
}

// expectAll expects the results of operations, the canonical texts of all values of which are given.
func expectAll(t *testing.T, l []operation) {
	t.Helper()
	for _, x := range l {
		if got := binary(x.op, parse(t, x.a), parse(t, x.b)); got != x.want {
			t.Errorf("%s %s %s is %s; expected %s", x.a, x.op, x.b, brief(got), brief(x.want))
		}
	}
}

// samples are texts of values of all kinds, in ascending order.
func samples() []string {
	return []string{
		"null", "false", "true", least, "-7", "-1", "0", "1", "2", greatest, `""`, `"0"`, `"a"`, `"ab"`, `"é"`,
		"[]", "[null]", "[1]", "[1,2]", "[[]]", "{}", `{"a":1}`, `{"a":{}}`, `{"a":1,"b":2}`, `{"b":null}`,
	}
}

func TestExamples(t *testing.T) {
	expectAll(t, []operation{
		{greatest, "+", "1", least}, {"[1,2,1,3]", "-", "[1]", "[2,3]"}, {`"a,b"`, "/", `","`, `["a","b"]`}, {`"ab"`, "/", `""`, `["a","b"]`},
		{`{"a":{"b":1}}`, "*", `{"a":{"c":2}}`, `{"a":{"b":1,"c":2}}`}, {"-7", "/", "2", "-3"}, {"-7", "%", "2", "-1"}, {"1", "+", `"a"`, wrongType},
	})
}

func TestP6_1NoSuchOperator(t *testing.T) {
	names := []string{
		"", " ", "+ ", " +", "++", "+=", "-=", "=", "===", "!", "!==", "<>", "=<", "=>", "<<", ">>", "<=>", "**", "//", "%%", "&", "|", "^", "and", "or", "not", "add", "Merge",
		"+\x00", "\x00", "\xff", "×", "÷", "−", "≤", "＋", ",", ".", "==\n", strings.Repeat("+", 1<<16),
	}
	for _, op := range names {
		for _, a := range samples() {
			for _, b := range []string{"null", "0", "1", `"a"`, "[1]", "{}"} {
				if got := binary(op, parse(t, a), parse(t, b)); got != outOfRange {
					t.Errorf("%s %s %s is %s", a, brief(op), b, got)
				}
			}
		}
	}
}

// badValues are values that are not valid.
func badValues() []api.Value {
	cycle := api.Value{Kind: api.Array, Elems: make([]api.Value, 2)}
	cycle.Elems[0], cycle.Elems[1] = cycle, cycle
	wide := num(1)
	for range 60 {
		wide = arr(slices.Repeat([]api.Value{wide}, api.MaxElems)...)
	}
	bad := []api.Value{
		{Kind: -1}, {Kind: api.Object + 1}, {Kind: math.MinInt}, {Int: 1}, {Kind: api.True, Str: "a"}, {Kind: api.Number, Str: "a"}, {Kind: api.Number, Elems: make([]api.Value, 1)},
		{Kind: api.String, Int: 1}, {Kind: api.String, Str: "\xff"}, {Kind: api.String, Str: "a\xed\xa0\x80"}, {Kind: api.Array, Keys: []string{"a"}}, {Kind: api.Object, Keys: []string{"a"}},
		{Kind: api.Object, Elems: make([]api.Value, 1)}, {Kind: api.Object, Int: 1}, obj([]string{"b", "a"}, num(1), num(2)), obj([]string{"a", "a"}, num(1), num(1)), obj([]string{"\x80"}, num(1)),
		str(strings.Repeat("x", api.MaxString+1)), arr(make([]api.Value, api.MaxElems+1)...), nested(num(1), api.MaxDepth+1), cycle, wide,
	}
	for _, v := range slices.Clone(bad) {
		bad = append(bad, arr(num(1), v), obj([]string{"a", "b"}, v, num(1)))
	}
	return bad
}

func TestP6_1NotValid(t *testing.T) {
	for i, bad := range badValues() {
		for _, op := range append(operators(), "", "no operator") {
			for _, s := range []string{"null", "0", "1", `""`, "[]", "{}"} {
				good := parse(t, s)
				if got := binary(op, bad, good); got != invalid {
					t.Errorf("bad value %d %s %s is %s", i, op, s, got)
				}
				if got := binary(op, good, bad); got != invalid {
					t.Errorf("%s %s bad value %d is %s", s, op, i, got)
				}
			}
			if got := binary(op, bad, bad); got != invalid {
				t.Errorf("bad value %d %s itself is %s", i, op, got)
			}
		}
	}
}

// The operators are defined for these pairs of kinds and, the comparisons excepted, for no others.
func TestP6_1Types(t *testing.T) {
	defined := map[string]string{
		"+": "number number, string string, array array, object object", "-": "number number, array array", "*": "number number, string number, number string, object object",
		"/": "number number, string string", "%": "number number",
	}
	kinds := []string{"null", "false", "true", "number", "string", "array", "object"}
	for op, pairs := range defined {
		for _, a := range samples() {
			for _, b := range samples() {
				x, y := parse(t, a), parse(t, b)
				good := slices.Contains(strings.Split(pairs, ", "), kinds[x.Kind]+" "+kinds[y.Kind])
				if op == "+" && (a == "null" || b == "null") {
					good = true
				}
				got := binary(op, x, y)
				if (got == wrongType) == good || got == outOfRange || got == invalid {
					t.Errorf("%s %s %s is %s", a, op, b, brief(got))
				}
			}
		}
	}
}

func TestP6_2SumWithNull(t *testing.T) {
	long := append(samples(), `[[1,{"a":[]}],"x"]`, `{"":{"a":[1,2]},"b":[[]]}`, `"`+strings.Repeat("x", api.MaxString)+`"`)
	for _, s := range long {
		expectAll(t, []operation{{s, "+", "null", s}, {"null", "+", s, s}})
	}
}

func TestP6_2Sum(t *testing.T) {
	expectAll(t, []operation{
		{"1", "+", "2", "3"}, {"-1", "+", "1", "0"}, {"0", "+", "-5", "-5"}, {greatest, "+", greatest, "-2"}, {least, "+", least, "0"}, {least, "+", "-1", greatest}, {greatest, "+", least, "-1"},
		{`""`, "+", `""`, `""`}, {`"a"`, "+", `"b"`, `"ab"`}, {`"b"`, "+", `"a"`, `"ba"`}, {`"é"`, "+", `""`, `"é"`}, {`"1"`, "+", `"2"`, `"12"`}, {`"\u0000"`, "+", `"\u0000"`, `"\u0000\u0000"`},
		{"[]", "+", "[]", "[]"}, {"[1]", "+", "[1]", "[1,1]"}, {"[2,1]", "+", "[null]", "[2,1,null]"}, {"[[1]]", "+", "[[2],3]", "[[1],[2],3]"}, {"[]", "+", "[{}]", "[{}]"},
		{"{}", "+", "{}", "{}"}, {`{"a":1}`, "+", "{}", `{"a":1}`}, {`{"a":1}`, "+", `{"a":2}`, `{"a":2}`}, {`{"b":1,"d":2}`, "+", `{"a":3,"c":4,"d":5}`, `{"a":3,"b":1,"c":4,"d":5}`},
		{`{"a":{"b":1}}`, "+", `{"a":{"c":2}}`, `{"a":{"c":2}}`}, {`{"a":1}`, "+", `{"a":null}`, `{"a":null}`}, {`{"a":[1]}`, "+", `{"a":[2]}`, `{"a":[2]}`}, {`{"":1,"é":2}`, "+", `{"z":3}`, `{"":1,"z":3,"é":2}`},
		{"true", "+", "true", wrongType}, {"false", "+", "true", wrongType}, {"1", "+", "true", wrongType}, {"[1]", "+", "1", wrongType}, {"[]", "+", "{}", wrongType}, {`"a"`, "+", "1", wrongType}, {`"a"`, "+", `["b"]`, wrongType},
	})
}

func TestP6_2Difference(t *testing.T) {
	expectAll(t, []operation{
		{"1", "-", "2", "-1"}, {"5", "-", "5", "0"}, {"0", "-", "1", "-1"}, {least, "-", "1", greatest}, {greatest, "-", "-1", least}, {"0", "-", least, least}, {"-1", "-", least, greatest}, {least, "-", greatest, "1"},
		{"[]", "-", "[]", "[]"}, {"[]", "-", "[1]", "[]"}, {"[1,2]", "-", "[]", "[1,2]"}, {"[3,1,2,1]", "-", "[1]", "[3,2]"}, {"[3,1,2]", "-", "[2,3,2]", "[1]"}, {"[1,1]", "-", "[1]", "[]"}, {"[2,2,1]", "-", "[1,3]", "[2,2]"},
		{"[3,2,1]", "-", "[9,5,7,2,4]", "[3,1]"}, {"[null,false,true,0]", "-", "[false]", "[null,true,0]"}, {"[null,false,0]", "-", "[null,null]", "[false,0]"}, {`[1,"1",[1]]`, "-", `["1"]`, "[1,[1]]"}, {"[[1],[2],[1,2]]", "-", "[[1]]", "[[2],[1,2]]"},
		{"[[1],1]", "-", "[1]", "[[1]]"}, {`[{"a":1},{"a":2},{}]`, "-", `[{"a":2}]`, `[{"a":1},{}]`}, {`["a","A","é"]`, "-", `["a","é"]`, `["A"]`}, {"[[]]", "-", "[[]]", "[]"}, {"[[],{}]", "-", "[{}]", "[[]]"},
		{"null", "-", "null", wrongType}, {"1", "-", "null", wrongType}, {"null", "-", "1", wrongType}, {`"ab"`, "-", `"b"`, wrongType}, {"[1]", "-", "1", wrongType}, {`{"a":1}`, "-", `{"a":1}`, wrongType}, {`{"a":1}`, "-", `["a"]`, wrongType}, {"true", "-", "false", wrongType},
	})
}

func TestP6_2Product(t *testing.T) {
	expectAll(t, []operation{
		{"2", "*", "3", "6"}, {"-2", "*", "3", "-6"}, {"0", "*", greatest, "0"}, {greatest, "*", "2", "-2"}, {least, "*", "-1", least}, {least, "*", "2", "0"}, {greatest, "*", greatest, "1"}, {"4294967296", "*", "4294967296", "0"}, {"3037000500", "*", "3037000500", "-9223372036709301616"},
		{`"ab"`, "*", "1", `"ab"`}, {`"ab"`, "*", "3", `"ababab"`}, {"3", "*", `"ab"`, `"ababab"`}, {"2", "*", `"é"`, `"éé"`}, {`"ab"`, "*", "0", "null"}, {"0", "*", `"ab"`, "null"}, {`"ab"`, "*", "-1", "null"}, {least, "*", `"ab"`, "null"},
		{`""`, "*", "0", "null"}, {`""`, "*", "-1", "null"}, {`""`, "*", "1", `""`}, {`""`, "*", greatest, `""`}, {greatest, "*", `""`, `""`}, {`""`, "*", "4294967296", `""`}, {`""`, "*", "2147483648", `""`},
		{"{}", "*", "{}", "{}"}, {`{"a":1}`, "*", `{"b":2}`, `{"a":1,"b":2}`}, {`{"a":{"b":1,"c":{"d":2}}}`, "*", `{"a":{"b":3,"c":{"e":4}}}`, `{"a":{"b":3,"c":{"d":2,"e":4}}}`},
		{`"a"`, "*", `"b"`, wrongType}, {"[1]", "*", "2", wrongType}, {"2", "*", "[1]", wrongType}, {"{}", "*", "2", wrongType}, {"{}", "*", "null", wrongType}, {"null", "*", "1", wrongType}, {`"a"`, "*", "null", wrongType}, {"true", "*", "1", wrongType}, {"[]", "*", "[]", wrongType}, {"{}", "*", "[]", wrongType},
	})
}

func TestP6_3Quotient(t *testing.T) {
	expectAll(t, []operation{
		{"7", "/", "2", "3"}, {"-7", "/", "2", "-3"}, {"7", "/", "-2", "-3"}, {"-7", "/", "-2", "3"}, {"6", "/", "3", "2"}, {"1", "/", "2", "0"}, {"-1", "/", "2", "0"}, {"0", "/", "5", "0"}, {least, "/", "-1", least}, {least, "/", "1", least}, {least, "/", "2", "-4611686018427387904"}, {greatest, "/", "-1", "-" + greatest}, {greatest, "/", least, "0"}, {least, "/", greatest, "-1"},
		{"1", "/", "0", byZero}, {"0", "/", "0", byZero}, {least, "/", "0", byZero}, {"-1", "/", "0", byZero},
		{`"a, b, c"`, "/", `", "`, `["a","b","c"]`}, {`"a"`, "/", `","`, `["a"]`}, {`""`, "/", `","`, "[]"}, {`""`, "/", `""`, "[]"}, {`","`, "/", `","`, `["",""]`}, {`",a,"`, "/", `","`, `["","a",""]`}, {`"aaa"`, "/", `"aa"`, `["","a"]`}, {`"aé😀"`, "/", `""`, `["a","é","😀"]`}, {`"aéb"`, "/", `"é"`, `["a","b"]`}, {`"a"`, "/", `"ab"`, `["a"]`},
		{"null", "/", "0", wrongType}, {`"a"`, "/", "0", wrongType}, {"[]", "/", "0", wrongType}, {"{}", "/", "0", wrongType}, {"true", "/", "0", wrongType}, {"0", "/", `"a"`, wrongType}, {"1", "/", "null", wrongType}, {"0", "/", "false", wrongType}, {"[1]", "/", "[1]", wrongType}, {"{}", "/", "{}", wrongType},
	})
}

func TestP6_3Remainder(t *testing.T) {
	expectAll(t, []operation{
		{"7", "%", "2", "1"}, {"-7", "%", "2", "-1"}, {"7", "%", "-2", "1"}, {"-7", "%", "-2", "-1"}, {"6", "%", "3", "0"}, {"-6", "%", "3", "0"}, {"1", "%", "2", "1"}, {"-1", "%", "2", "-1"}, {"0", "%", "5", "0"}, {"5", "%", greatest, "5"},
		{least, "%", "-1", "0"}, {least, "%", "1", "0"}, {least, "%", greatest, "-1"}, {greatest, "%", least, greatest}, {least, "%", least, "0"}, {least, "%", "10", "-8"}, {greatest, "%", "-10", "7"},
		{"1", "%", "0", byZero}, {"0", "%", "0", byZero}, {least, "%", "0", byZero},
		{"null", "%", "0", wrongType}, {`"a"`, "%", "0", wrongType}, {"[]", "%", "0", wrongType}, {"false", "%", "0", wrongType}, {"{}", "%", "0", wrongType}, {"0", "%", "null", wrongType}, {"5", "%", `"a"`, wrongType}, {`"a"`, "%", `"a"`, wrongType}, {"[1]", "%", "[1]", wrongType}, {"{}", "%", "{}", wrongType},
	})
}

func TestP6_3Comparisons(t *testing.T) {
	words := map[bool]string{false: "false", true: "true"}
	for i, a := range samples() {
		for j, b := range samples() {
			expectAll(t, []operation{
				{a, "==", b, words[i == j]}, {a, "!=", b, words[i != j]}, {a, "<", b, words[i < j]}, {a, "<=", b, words[i <= j]}, {a, ">", b, words[i > j]}, {a, ">=", b, words[i >= j]},
			})
		}
	}
}

func TestP6_4Neg(t *testing.T) {
	for s, want := range map[string]string{"0": "0", "1": "-1", "-1": "1", "12": "-12", greatest: "-" + greatest, "-" + greatest: greatest, least: least} {
		if got := outcome(Neg(parse(t, s))); got != want {
			t.Errorf("Neg of %s is %s", s, got)
		}
	}
	for _, s := range samples() {
		if v := parse(t, s); v.Kind != api.Number {
			if got := outcome(Neg(v)); got != wrongType {
				t.Errorf("Neg of %s is %s", s, got)
			}
		}
	}
	for i, bad := range badValues() {
		if got := outcome(Neg(bad)); got != invalid {
			t.Errorf("Neg of bad value %d is %s", i, got)
		}
	}
}

func TestP6_4Merge(t *testing.T) {
	for _, x := range []struct{ a, b, want string }{
		{"{}", "{}", "{}"}, {`{"a":1}`, "{}", `{"a":1}`}, {"{}", `{"a":1}`, `{"a":1}`}, {`{"a":1}`, `{"a":2}`, `{"a":2}`}, {`{"b":1,"c":2}`, `{"a":3,"c":4,"d":5}`, `{"a":3,"b":1,"c":4,"d":5}`},
		{`{"a":{"b":1}}`, `{"a":{"c":2}}`, `{"a":{"b":1,"c":2}}`}, {`{"a":{"b":1}}`, `{"a":{}}`, `{"a":{"b":1}}`}, {`{"a":{"b":1}}`, `{"a":null}`, `{"a":null}`}, {`{"a":{"b":1}}`, `{"a":[]}`, `{"a":[]}`}, {`{"a":1}`, `{"a":{"b":1}}`, `{"a":{"b":1}}`}, {`{"a":null}`, `{"a":{}}`, `{"a":{}}`},
		{`{"a":[1,2]}`, `{"a":[3]}`, `{"a":[3]}`}, {`{"a":[{"b":1}]}`, `{"a":[{"c":2}]}`, `{"a":[{"c":2}]}`}, {`{"a":{"x":{"y":{"z":1,"w":2}}},"b":{"c":1}}`, `{"a":{"x":{"y":{"z":3,"v":{}}}},"c":{"d":2}}`, `{"a":{"x":{"y":{"v":{},"w":2,"z":3}}},"b":{"c":1},"c":{"d":2}}`},
		{`{"a":{"k":1},"b":{"k":2},"c":{"k":3}}`, `{"a":{"l":4},"c":{"l":5}}`, `{"a":{"k":1,"l":4},"b":{"k":2},"c":{"k":3,"l":5}}`}, {`{"b":{"k":1}}`, `{"a":{"l":2},"b":{"m":3},"c":{"n":4}}`, `{"a":{"l":2},"b":{"k":1,"m":3},"c":{"n":4}}`}, {`{"":{"é":1}}`, `{"":{"":2}}`, `{"":{"":2,"é":1}}`},
		{"null", "{}", wrongType}, {"{}", "null", wrongType}, {"null", "null", wrongType}, {"[]", "[]", wrongType}, {"1", "{}", wrongType}, {"{}", "1", wrongType}, {`"a"`, "2", wrongType}, {"2", "3", wrongType}, {"{}", "[]", wrongType}, {"true", "{}", wrongType}, {"{}", `""`, wrongType},
	} {
		if got := outcome(Merge(parse(t, x.a), parse(t, x.b))); got != x.want {
			t.Errorf("Merge of %s and %s is %s; expected %s", x.a, x.b, brief(got), x.want)
		}
	}
	for i, bad := range badValues() {
		for _, s := range []string{"null", "1", "[]", "{}", `{"a":{}}`} {
			first, second := outcome(Merge(bad, parse(t, s))), outcome(Merge(parse(t, s), bad))
			if first != invalid || second != invalid {
				t.Errorf("Merge of bad value %d and %s is %s, the other way %s", i, s, first, second)
			}
		}
	}
}

func TestP6_5Message(t *testing.T) {
	texts := map[api.Errno]string{
		12: "type error", 13: "division by zero", 2: "limit exceeded", 3: "range error", 14: "path error", 8: "depth exceeded", 7: "number error", 4: "syntax error", 5: "syntax error", 6: "syntax error",
	}
	numbers := []api.Errno{math.MinInt, math.MaxInt, 1 << 32, 12 - 1<<32, 12 + 1<<32}
	for e := api.Errno(-300); e <= 300; e++ {
		numbers = append(numbers, e)
	}
	for _, e := range numbers {
		if got := Message(e); got != texts[e] {
			t.Errorf("Message of %d is %q", e, got)
		}
	}
}
