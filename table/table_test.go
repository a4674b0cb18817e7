package table

import (
	"math"
	"slices"
	"strconv"
	"strings"
	"testing"

	"ndjq/api"
	"ndjq/jsonparse"
	"ndjq/jsonwrite"
	"ndjq/value"
)

// Names of errors in the tables, which are no JSON texts.
const (
	invalid    = "ErrInvalid"
	limit      = "ErrLimit"
	outOfRange = "ErrRange"
	wrongType  = "ErrType"
	greatest   = "9223372036854775807"
	least      = "-9223372036854775808"
)

func errorName(e api.Errno) string {
	names := map[api.Errno]string{api.ErrInvalid: invalid, api.ErrLimit: limit, api.ErrRange: outOfRange, api.ErrType: wrongType}
	if name, ok := names[e]; ok {
		return name
	}
	return "error " + strconv.Itoa(int(e))
}

// outcome is the text of a result, or the name of an error with which all fields of the value are zero.
func outcome(v api.Value, e api.Errno) string {
	if e == api.OK {
		return jsonwrite.Text(v)
	}
	if v.Kind != 0 || v.Int != 0 || v.Str != "" || len(v.Keys) != 0 || len(v.Elems) != 0 {
		return errorName(e) + " with a value"
	}
	return errorName(e)
}

// valueOf returns the value of a text of the tables.
func valueOf(t *testing.T, s string) api.Value {
	t.Helper()
	v, _, e := jsonparse.Parse(s)
	if e != api.OK {
		t.Fatal("no JSON text:", s)
	}
	return v
}

// brief shows both ends of a text.
func brief(s string) string {
	if len(s) > 80 {
		s = s[:40] + " .. " + s[len(s)-40:]
	}
	return strconv.QuoteToASCII(s)
}

type unary func(v api.Value) (api.Value, api.Errno)

// unaries are the functions of one argument.
func unaries() map[string]unary {
	return map[string]unary{
		"Length": Length, "Keys": Keys, "Values": Values, "Add": Add, "Any": Any, "All": All,
		"Reverse": Reverse, "ToEntries": ToEntries, "FromEntries": FromEntries, "Transpose": Transpose,
	}
}

type binary func(v, w api.Value) (api.Value, api.Errno)

// sorters are the functions of an array and a list of keys.
func sorters() map[string]binary {
	return map[string]binary{"SortBy": SortBy, "GroupBy": GroupBy, "UniqueBy": UniqueBy, "MinBy": MinBy, "MaxBy": MaxBy}
}

// binaries are the functions of two arguments.
func binaries() map[string]binary {
	all := sorters()
	all["Has"], all["Contains"], all["Flatten"] = Has, Contains, Flatten
	return all
}

// expect calls the function of one argument with each first text of a pair; the second is the canonical text of the result, or the name of an error.
func expect(t *testing.T, name string, l [][2]string) {
	t.Helper()
	for _, x := range l {
		if got := outcome(unaries()[name](valueOf(t, x[0]))); got != x[1] {
			t.Errorf("%s of %s is %s; expected %s", name, brief(x[0]), brief(got), brief(x[1]))
		}
	}
}

// expectPairs is expect for a function of two arguments.
func expectPairs(t *testing.T, name string, l [][3]string) {
	t.Helper()
	for _, x := range l {
		if got := outcome(binaries()[name](valueOf(t, x[0]), valueOf(t, x[1]))); got != x[2] {
			t.Errorf("%s of %s and %s is %s; expected %s", name, brief(x[0]), brief(x[1]), brief(got), brief(x[2]))
		}
	}
}

func TestExamples(t *testing.T) {
	expect(t, "Length", [][2]string{{`"é"`, "1"}})
	expectPairs(t, "Contains", [][3]string{{`{"a":[1,"foobar"]}`, `{"a":["bar"]}`, wrongType}})
	expectPairs(t, "GroupBy", [][3]string{{"[3,1,2]", "[1,0,1]", "[[1],[3,2]]"}})
	expectPairs(t, "Flatten", [][3]string{{"[1,[2,[3]]]", "1", "[1,2,[3]]"}})
}

// samples are texts of values of all kinds, whose elements fit every function.
func samples() []string {
	return []string{"null", "false", "true", least, "-1", "0", "1", greatest, `""`, `"a"`, `"aéb"`, `"[]"`, "[]", "{}"}
}

// Each function of one argument has the error ErrType for exactly these kinds of arguments.
func TestTypesOfOneArgument(t *testing.T) {
	fits := map[string]string{
		"Length": "null number string array object", "Keys": "array object", "Values": "array object", "Add": "array object", "Any": "array", "All": "array",
		"Reverse": "null string array", "ToEntries": "object", "FromEntries": "array", "Transpose": "array",
	}
	for name, f := range unaries() {
		for _, s := range append(samples(), `{"a":{"b":1}}`) {
			v := valueOf(t, s)
			want := strings.Contains(fits[name], value.TypeName(v))
			if got := outcome(f(v)); (got != wrongType) != want {
				t.Errorf("%s of %s is %s", name, s, got)
			}
		}
	}
}

// Each function of two arguments has the error ErrType for exactly these kinds of arguments.
func TestTypesOfTwoArguments(t *testing.T) {
	fits := func(name string, v, w api.Value) bool {
		kinds := value.TypeName(v) + " " + value.TypeName(w)
		switch name {
		case "Has":
			return kinds == "object string" || kinds == "array number"
		case "Contains":
			return value.TypeName(v) == value.TypeName(w)
		case "Flatten":
			return kinds == "array number"
		}
		return kinds == "array array"
	}
	all := append(samples(), "[null]", "[null,null]", `{"a":null}`)
	for name, f := range binaries() {
		for _, first := range all {
			for _, second := range all {
				v, w := valueOf(t, first), valueOf(t, second)
				if got := outcome(f(v, w)); (got != wrongType) != fits(name, v, w) {
					t.Errorf("%s of %s and %s is %s", name, first, second, got)
				}
			}
		}
	}
}

func TestP9_1Length(t *testing.T) {
	expect(t, "Length", [][2]string{
		{"null", "0"}, {"0", "0"}, {"5", "5"}, {"-5", "5"}, {"1", "1"}, {"-1", "1"}, {greatest, greatest}, {"-" + greatest, greatest}, {least, least}, {"4294967296", "4294967296"}, {"-4294967297", "4294967297"},
		{`""`, "0"}, {`"a"`, "1"}, {`"abc"`, "3"}, {`"é"`, "1"}, {`"aéb"`, "3"}, {`"€😀"`, "2"}, {`"e\u0301"`, "2"}, {`"\u0000"`, "1"}, {`"12"`, "2"},
		{"[]", "0"}, {"[1]", "1"}, {"[null,null]", "2"}, {"[[1,2,3]]", "1"}, {`["abc"]`, "1"}, {"{}", "0"}, {`{"a":1}`, "1"}, {`{"abc":[1,2],"b":null}`, "2"}, {`{"a":1,"a":2}`, "1"},
		{"true", wrongType}, {"false", wrongType},
	})
}

func TestP9_1Keys(t *testing.T) {
	expect(t, "Keys", [][2]string{
		{"[]", "[]"}, {"[5]", "[0]"}, {"[null,[7],{}]", "[0,1,2]"}, {`["a","b"]`, "[0,1]"}, {"{}", "[]"}, {`{"a":1}`, `["a"]`}, {`{"b":1,"a":[2],"c":{"d":3}}`, `["a","b","c"]`}, {`{"":1}`, `[""]`}, {`{"10":1,"9":2}`, `["10","9"]`}, {`{"é":1,"z":2,"Z":3}`, `["Z","z","é"]`}, {`{"\n":1}`, `["\n"]`},
		{"null", wrongType}, {"true", wrongType}, {"false", wrongType}, {"0", wrongType}, {`"a"`, wrongType}, {`""`, wrongType},
	})
}

func TestP9_1Values(t *testing.T) {
	expect(t, "Values", [][2]string{
		{"[]", "[]"}, {"[3,1,2]", "[3,1,2]"}, {`[null,[7],{"a":1},"x",true]`, `[null,[7],{"a":1},"x",true]`}, {"{}", "[]"}, {`{"a":1}`, "[1]"}, {`{"b":1,"a":2}`, "[2,1]"}, {`{"b":{"c":1},"a":[2],"":null}`, `[null,[2],{"c":1}]`},
		{"null", wrongType}, {"true", wrongType}, {"false", wrongType}, {"0", wrongType}, {`"a"`, wrongType}, {`""`, wrongType},
	})
}

func TestP9_1Has(t *testing.T) {
	expectPairs(t, "Has", [][3]string{
		{`{"a":1}`, `"a"`, "true"}, {`{"a":null}`, `"a"`, "true"}, {`{"a":false}`, `"a"`, "true"}, {`{"a":1}`, `"b"`, "false"}, {`{"a":1}`, `""`, "false"}, {"{}", `"a"`, "false"}, {"{}", `""`, "false"}, {`{"":1}`, `""`, "true"}, {`{"a":{"b":1}}`, `"b"`, "false"}, {`{"ab":1}`, `"a"`, "false"}, {`{"a":1}`, `"ab"`, "false"}, {`{"a":1,"b":2,"c":3}`, `"c"`, "true"}, {`{"a":1,"c":3}`, `"b"`, "false"}, {`{"0":1}`, `"0"`, "true"}, {`{"é":1}`, `"é"`, "true"},
		{"[1]", "0", "true"}, {"[null]", "0", "true"}, {"[1]", "1", "false"}, {"[]", "0", "false"}, {"[1,2,3]", "2", "true"}, {"[1,2,3]", "3", "false"}, {"[1,2,3]", "-1", "false"}, {"[1,2,3]", "-3", "false"}, {"[1]", greatest, "false"}, {"[1]", least, "false"}, {"[1]", "4294967296", "false"}, {"[1]", "-4294967296", "false"}, {"[1]", "-18446744073", "false"}, {"[5]", "5", "false"},
		{`{"a":1}`, "0", wrongType}, {`{"0":1}`, "0", wrongType}, {"[1]", `"0"`, wrongType}, {`["a"]`, `"a"`, wrongType}, {"{}", "null", wrongType}, {"[]", "null", wrongType}, {"[1]", "[0]", wrongType}, {`{"a":1}`, `["a"]`, wrongType}, {`{"a":1}`, "true", wrongType}, {"[1,2]", "true", wrongType}, {`"abc"`, "0", wrongType}, {`"abc"`, `"a"`, wrongType}, {"null", `"a"`, wrongType}, {"null", "0", wrongType}, {"5", "0", wrongType},
	})
}

func TestP9_2Simple(t *testing.T) {
	expectPairs(t, "Contains", [][3]string{
		{"null", "null", "true"}, {"1", "1", "true"}, {"1", "2", "false"}, {"12", "1", "false"}, {"-1", "1", "false"}, {least, least, "true"}, {greatest, least, "false"}, {"true", "true", "true"}, {"false", "false", "true"}, {"true", "false", "false"}, {"false", "true", "false"},
		{`"foobar"`, `"bar"`, "true"}, {`"foobar"`, `"foo"`, "true"}, {`"foobar"`, `"oba"`, "true"}, {`"foobar"`, `"foobar"`, "true"}, {`"foobar"`, `""`, "true"}, {`""`, `""`, "true"}, {`""`, `"a"`, "false"}, {`"foobar"`, `"baz"`, "false"}, {`"foobar"`, `"fb"`, "false"}, {`"bar"`, `"foobar"`, "false"}, {`"aéb"`, `"é"`, "true"}, {`"aéb"`, `"è"`, "false"}, {`"abc"`, `"B"`, "false"}, {`"a\u0000b"`, `"b"`, "true"},
		{"null", "false", wrongType}, {"false", "null", wrongType}, {"null", "0", wrongType}, {"true", "1", wrongType}, {"1", "true", wrongType}, {`"1"`, "1", wrongType}, {"1", `"1"`, wrongType}, {`"null"`, "null", wrongType}, {"null", `""`, wrongType}, {`"a"`, `["a"]`, wrongType}, {`["a"]`, `"a"`, wrongType}, {"[1]", "1", wrongType}, {"[null]", "null", wrongType}, {`{"a":1}`, `"a"`, wrongType}, {"[]", "{}", wrongType}, {"{}", "[]", wrongType}, {"[]", "null", wrongType}, {"null", "{}", wrongType},
	})
}

func TestP9_2Arrays(t *testing.T) {
	expectPairs(t, "Contains", [][3]string{
		{"[]", "[]", "true"}, {"[1]", "[]", "true"}, {"[]", "[1]", "false"}, {"[1,2,3]", "[1]", "true"}, {"[1,2,3]", "[3,1]", "true"}, {"[1,2,3]", "[2,2,2,2]", "true"}, {"[1,2,3]", "[1,4]", "false"}, {"[1,2,3]", "[4,1]", "false"}, {"[null]", "[null]", "true"}, {"[true,false]", "[false]", "true"}, {"[true]", "[false]", "false"}, {"[true,true]", "[true,false]", "false"},
		{`["foobar","foobaz","blarp"]`, `["baz","bar"]`, "true"}, {`["foobar","foobaz","blarp"]`, `["bazzz","bar"]`, "false"}, {`["ab"]`, `["a","b",""]`, "true"}, {"[[1,2],[3]]", "[[3]]", "true"}, {"[[1,2],[3]]", "[[2],[1,2]]", "true"}, {"[[1,2],[3]]", "[[1,3]]", "false"}, {"[[1,2],[3]]", "[[]]", "true"}, {"[[[]]]", "[[[]]]", "true"}, {"[[]]", "[[[]]]", "false"}, {`[{"a":1,"b":2},{"c":3}]`, `[{"c":3},{"b":2}]`, "true"}, {`[{"a":1,"b":2},{"c":3}]`, `[{"a":1,"c":3}]`, "false"},
	})
}

func TestP9_2Objects(t *testing.T) {
	expectPairs(t, "Contains", [][3]string{
		{"{}", "{}", "true"}, {`{"a":1}`, "{}", "true"}, {"{}", `{"a":1}`, "false"}, {"{}", `{"a":null}`, "false"}, {`{"a":1}`, `{"a":1}`, "true"}, {`{"a":1}`, `{"a":2}`, "false"}, {`{"a":1}`, `{"b":1}`, "false"}, {`{"a":1,"b":2}`, `{"b":2}`, "true"}, {`{"a":1,"b":2}`, `{"a":2}`, "false"}, {`{"b":2}`, `{"a":1,"b":2}`, "false"}, {`{"a":true}`, `{"a":false}`, "false"}, {`{"a":null}`, `{"a":null}`, "true"},
		{`{"a":"foobar"}`, `{"a":"bar"}`, "true"}, {`{"foobar":1}`, `{"bar":1}`, "false"}, {`{"a":[1,2]}`, `{"a":[2]}`, "true"}, {`{"a":[1,2]}`, `{"a":[3]}`, "false"}, {`{"a":{"b":{"c":1,"d":2}}}`, `{"a":{"b":{"d":2}}}`, "true"}, {`{"a":{"b":{"c":1,"d":2}}}`, `{"a":{"d":2}}`, "false"}, {`{"foo":12,"bar":[1,2,{"barp":12,"blip":13}]}`, `{"foo":12}`, "true"},
	})
}

// Parts are compared in the order of the promise: the first answer or error that ends the examination counts.
func TestP9_2Order(t *testing.T) {
	expectPairs(t, "Contains", [][3]string{
		{`[1,"foobar"]`, `["bar"]`, wrongType}, {`["foobar",1]`, `["bar"]`, "true"}, {`["foobar",1]`, `["baz"]`, wrongType}, {`[1,"foobar"]`, "[]", "true"}, {`[1,"a"]`, "[1]", "true"}, {`["a",1]`, "[1]", wrongType}, {`[1,"a"]`, "[2]", wrongType}, {`["a"]`, `["b",1]`, "false"}, {`["a"]`, `["a",1]`, wrongType}, {`["a"]`, `[1,"b"]`, wrongType}, {"[]", `[1,"b",[]]`, "false"}, {"[true]", "[false,1]", "false"}, {"[false]", "[false,null]", wrongType},
		{`{"a":1,"b":1}`, `{"a":2,"b":"x"}`, "false"}, {`{"a":1,"b":1}`, `{"a":1,"b":"x"}`, wrongType}, {`{"a":1,"b":1}`, `{"a":"x","b":2}`, wrongType}, {`{"a":1}`, `{"0":1,"a":"x"}`, "false"}, {`{"a":1}`, `{"a":"x","b":1}`, wrongType}, {`{"a":1}`, `{"a":1,"b":"x"}`, "false"}, {`{"b":1,"a":1}`, `{"b":"x","a":2}`, "false"}, {`{"a":1,"b":2}`, `{"b":"x"}`, wrongType}, {`{"a":"x","b":2}`, `{"b":2}`, "true"}, {`{"é":1,"z":1}`, `{"é":"x","z":2}`, "false"},
		{`[[1],["a"]]`, `[["a"]]`, wrongType}, {`[["a"],[1]]`, `[["a"]]`, "true"}, {`[["b"],[1]]`, `[["a"]]`, wrongType}, {`[[],["a"]]`, `[["a"]]`, "true"}, {`[[],[1]]`, `[["a"]]`, wrongType}, {`[[2,1],["a"]]`, `[[1,"a"]]`, wrongType}, {`[[2],["a"]]`, `[[1,"a"]]`, wrongType}, {`[[2]]`, `[[1,"a"]]`, "false"}, {`[{"a":1},{"a":"x"}]`, `[{"a":1}]`, "true"}, {`[{"a":1},{"a":"x"}]`, `[{"a":"x"}]`, wrongType}, {`[{"b":1},{"a":"x"}]`, `[{"a":"x"}]`, "true"}, {`[{"a":1},[]]`, `[{"a":2}]`, wrongType}, {`[{"a":1},[]]`, `[{"a":1}]`, "true"},
	})
}

func TestP9_3Add(t *testing.T) {
	expect(t, "Add", [][2]string{
		{"[]", "null"}, {"{}", "null"}, {"[null]", "null"}, {"[null,null]", "null"}, {"[1]", "1"}, {"[1,2,3]", "6"}, {"[1,null,2]", "3"}, {"[null,1]", "1"}, {"[1,-1]", "0"}, {"[" + greatest + ",1]", least}, {"[" + greatest + ",1,-1]", greatest}, {"[" + least + "," + least + "]", "0"},
		{`["a","b","c"]`, `"abc"`}, {`["b",null,"a"]`, `"ba"`}, {`[""]`, `""`}, {`["é","😀"]`, `"é😀"`}, {"[[1],[2,3],[]]", "[1,2,3]"}, {"[[]]", "[]"}, {"[[[1]],[[2]]]", "[[1],[2]]"}, {`[{"a":1},{"b":2},{"a":3}]`, `{"a":3,"b":2}`}, {`[{"a":{"b":1}},{"a":{"c":2}}]`, `{"a":{"c":2}}`}, {"[{}]", "{}"},
		{"[true]", "true"}, {"[false]", "false"}, {"[null,true,null]", "true"}, {`{"a":1,"b":2}`, "3"}, {`{"b":"x","a":"y"}`, `"yx"`}, {`{"b":[1],"c":null,"a":[2]}`, "[2,1]"}, {`{"b":{"k":1},"a":{"k":2}}`, `{"k":1}`},
		{"[true,true]", wrongType}, {"[false,true]", wrongType}, {`[1,"a"]`, wrongType}, {`["a",1]`, wrongType}, {"[1,[]]", wrongType}, {"[[],{}]", wrongType}, {`["a",null,[]]`, wrongType}, {"[1,true]", wrongType}, {"[1,2,3,{}]", wrongType}, {`{"a":1,"b":"c"}`, wrongType},
		{"null", wrongType}, {"true", wrongType}, {"0", wrongType}, {`"ab"`, wrongType}, {`""`, wrongType},
	})
}

func TestP9_3AnyAndAll(t *testing.T) {
	for _, x := range [][3]string{
		{"[]", "false", "true"}, {"[true]", "true", "true"}, {"[false]", "false", "false"}, {"[null]", "false", "false"}, {"[null,false]", "false", "false"}, {"[true,false]", "true", "false"}, {"[false,true]", "true", "false"}, {"[null,true]", "true", "false"}, {"[true,null]", "true", "false"}, {"[true,true]", "true", "true"}, {"[false,null,1]", "true", "false"}, {"[1,null,2]", "true", "false"},
		{"[0]", "true", "true"}, {`[""]`, "true", "true"}, {"[[]]", "true", "true"}, {"[{}]", "true", "true"}, {"[-1]", "true", "true"}, {"[[false]]", "true", "true"}, {`[{"a":null}]`, "true", "true"}, {`["null"]`, "true", "true"}, {`[0,"",[],{},true,1,"a"]`, "true", "true"}, {`[0,"",[],{},true,1,"a",false]`, "true", "false"},
		{"null", wrongType, wrongType}, {"true", wrongType, wrongType}, {"false", wrongType, wrongType}, {"1", wrongType, wrongType}, {`"a"`, wrongType, wrongType}, {"{}", wrongType, wrongType}, {`{"a":true}`, wrongType, wrongType},
	} {
		expect(t, "Any", [][2]string{{x[0], x[1]}})
		expect(t, "All", [][2]string{{x[0], x[2]}})
	}
}

func TestP9_3Flatten(t *testing.T) {
	expectPairs(t, "Flatten", [][3]string{
		{"[]", "0", "[]"}, {"[]", "1", "[]"}, {"[1,2]", "0", "[1,2]"}, {"[1,2]", "5", "[1,2]"}, {"[1,[2,[3]]]", "0", "[1,[2,[3]]]"}, {"[1,[2,[3]]]", "1", "[1,2,[3]]"}, {"[1,[2,[3]]]", "2", "[1,2,3]"}, {"[1,[2,[3]]]", "3", "[1,2,3]"}, {"[1,[2,[3]]]", greatest, "[1,2,3]"}, {"[1,[2,[3]]]", "4294967296", "[1,2,3]"}, {"[[[[1]]]]", "2", "[[1]]"}, {"[[[[1]]]]", "3", "[1]"},
		{"[[]]", "0", "[[]]"}, {"[[]]", "1", "[]"}, {"[[],[[]],1]", "1", "[[],1]"}, {"[[],[[]],1]", "2", "[1]"}, {"[[3,1],[2],[[0]]]", "1", "[3,1,2,[0]]"}, {"[[1],2,[3],4]", "1", "[1,2,3,4]"}, {`[{"a":[1]},[{"b":[2]}]]`, "9", `[{"a":[1]},{"b":[2]}]`}, {`[null,[null,"x"],true]`, "1", `[null,null,"x",true]`}, {`[[{"a":[[1]]}]]`, "5", `[{"a":[[1]]}]`},
		{"[1,[2]]", "-1", outOfRange}, {"[]", "-1", outOfRange}, {"[1]", least, outOfRange}, {"[[]]", "-4294967295", outOfRange},
		{"[1]", "null", wrongType}, {"[1]", `"1"`, wrongType}, {"[1]", "true", wrongType}, {"[1]", "[1]", wrongType}, {"null", "1", wrongType}, {"null", "-1", wrongType}, {"1", "1", wrongType}, {`"a"`, "-1", wrongType}, {`{"a":[1]}`, "1", wrongType}, {"{}", "-1", wrongType}, {"null", "null", wrongType},
	})
}

func TestP9_3Reverse(t *testing.T) {
	expect(t, "Reverse", [][2]string{
		{"null", "[]"}, {"[]", "[]"}, {"[1]", "[1]"}, {"[1,2]", "[2,1]"}, {"[1,2,3]", "[3,2,1]"}, {"[[1,2],[3]]", "[[3],[1,2]]"}, {`["ab",null,{"a":[1,2]}]`, `[{"a":[1,2]},null,"ab"]`},
		{`""`, `""`}, {`"a"`, `"a"`}, {`"ab"`, `"ba"`}, {`"abc"`, `"cba"`}, {`"aéb"`, `"béa"`}, {`"€😀é"`, `"é😀€"`}, {`"e\u0301"`, `"` + "\u0301e" + `"`}, {`"\n\u0000"`, `"\u0000\n"`}, {`"12"`, `"21"`},
		{"true", wrongType}, {"false", wrongType}, {"12", wrongType}, {"0", wrongType}, {"{}", wrongType}, {`{"a":1,"b":2}`, wrongType},
	})
}

// sorting is an array with keys and the results of all functions that sort it.
type sorting struct {
	v, keys                       string
	sorted, groups, unique        string
	leastElement, greatestElement string
}

func expectSorting(t *testing.T, l []sorting) {
	t.Helper()
	for _, x := range l {
		expectPairs(t, "SortBy", [][3]string{{x.v, x.keys, x.sorted}})
		expectPairs(t, "GroupBy", [][3]string{{x.v, x.keys, x.groups}})
		expectPairs(t, "UniqueBy", [][3]string{{x.v, x.keys, x.unique}})
		expectPairs(t, "MinBy", [][3]string{{x.v, x.keys, x.leastElement}})
		expectPairs(t, "MaxBy", [][3]string{{x.v, x.keys, x.greatestElement}})
	}
}

func TestP9_4Sort(t *testing.T) {
	expectSorting(t, []sorting{
		{"[]", "[]", "[]", "[]", "[]", "null", "null"},
		{"[5]", "[1]", "[5]", "[[5]]", "[5]", "5", "5"},
		{"[null]", `["x"]`, "[null]", "[[null]]", "[null]", "null", "null"},
		{"[3,1,2]", "[3,1,2]", "[1,2,3]", "[[1],[2],[3]]", "[1,2,3]", "1", "3"},
		{"[3,1,2]", "[1,0,1]", "[1,3,2]", "[[1],[3,2]]", "[1,3]", "1", "2"},
		{"[3,1,2]", "[0,0,0]", "[3,1,2]", "[[3,1,2]]", "[3]", "3", "2"},
		{"[1,2,3,4]", "[2,1,2,1]", "[2,4,1,3]", "[[2,4],[1,3]]", "[2,1]", "2", "3"},
		{"[1,2,3,4,5]", "[5,4,3,2,1]", "[5,4,3,2,1]", "[[5],[4],[3],[2],[1]]", "[5,4,3,2,1]", "5", "1"},
		{`["a","b","c"]`, "[-1," + least + "," + greatest + "]", `["b","a","c"]`, `[["b"],["a"],["c"]]`, `["b","a","c"]`, `"b"`, `"c"`},
		{"[1,2,3,4,5,6,7]", `[{},[],"",0,true,false,null]`, "[7,6,5,4,3,2,1]", "[[7],[6],[5],[4],[3],[2],[1]]", "[7,6,5,4,3,2,1]", "7", "1"},
		{"[1,2,3]", `["b","a","B"]`, "[3,2,1]", "[[3],[2],[1]]", "[3,2,1]", "3", "1"},
		{"[1,2,3,4]", `[[1,2],[1],[0,5],[1]]`, "[3,2,4,1]", "[[3],[2,4],[1]]", "[3,2,1]", "3", "1"},
		{"[1,2,3]", `[{"b":1},{"a":5},{"a":1,"b":0}]`, "[2,3,1]", "[[2],[3],[1]]", "[2,3,1]", "2", "1"},
		{"[[9],[8],[7]]", "[1,1,0]", "[[7],[9],[8]]", "[[[7]],[[9],[8]]]", "[[7],[9]]", "[7]", "[8]"},
		{`[{"a":1},{"a":2}]`, "[1,0]", `[{"a":2},{"a":1}]`, `[[{"a":2}],[{"a":1}]]`, `[{"a":2},{"a":1}]`, `{"a":2}`, `{"a":1}`},
		{"[1,1,1]", "[2,1,2]", "[1,1,1]", "[[1],[1,1]]", "[1,1]", "1", "1"},
		{"[1,2,3,4]", "[null,false,null,false]", "[1,3,2,4]", "[[1,3],[2,4]]", "[1,2]", "1", "4"},
	})
}

func TestP9_4Errors(t *testing.T) {
	for _, x := range [][3]string{
		{"[]", "[1]", outOfRange}, {"[1]", "[]", outOfRange}, {"[1,2]", "[1]", outOfRange}, {"[1]", "[1,2]", outOfRange}, {"[1,2,3]", "[[1,2,3]]", outOfRange}, {"[1]", "[null,null]", outOfRange},
		{"[1]", "null", wrongType}, {"[1]", "1", wrongType}, {"[1]", `"a"`, wrongType}, {"[1]", `{"a":1}`, wrongType}, {"[]", "null", wrongType}, {"[]", "{}", wrongType}, {"null", "[]", wrongType}, {"null", "[1]", wrongType}, {"{}", "[]", wrongType}, {`{"a":1}`, "[1]", wrongType}, {`"a"`, `["a"]`, wrongType}, {"1", "[1,2]", wrongType}, {"true", "[]", wrongType}, {"null", "null", wrongType},
	} {
		for name := range sorters() {
			expectPairs(t, name, [][3]string{x})
		}
	}
}

func TestP9_5ToEntries(t *testing.T) {
	expect(t, "ToEntries", [][2]string{
		{"{}", "[]"}, {`{"a":1}`, `[{"key":"a","value":1}]`}, {`{"b":1,"a":2}`, `[{"key":"a","value":2},{"key":"b","value":1}]`}, {`{"":null,"é":[1],"z":{"key":1}}`, `[{"key":"","value":null},{"key":"z","value":{"key":1}},{"key":"é","value":[1]}]`}, {`{"key":"value","value":"key"}`, `[{"key":"key","value":"value"},{"key":"value","value":"key"}]`},
		{"[]", wrongType}, {"[1]", wrongType}, {"null", wrongType}, {"1", wrongType}, {`"a"`, wrongType}, {"false", wrongType},
	})
}

func TestP9_5FromEntries(t *testing.T) {
	expect(t, "FromEntries", [][2]string{
		{"[]", "{}"}, {`[{"key":"a","value":1}]`, `{"a":1}`}, {`[{"key":"b","value":1},{"key":"a","value":[2]}]`, `{"a":[2],"b":1}`}, {`[{"key":"a","value":1},{"key":"a","value":2}]`, `{"a":2}`}, {`[{"key":"a","value":1},{"key":"b","value":3},{"key":"a"}]`, `{"a":null,"b":3}`}, {`[{"key":"","value":1}]`, `{"":1}`}, {`[{"key":"é","value":{"key":1}}]`, `{"é":{"key":1}}`},
		{`[{"key":"a"}]`, `{"a":null}`}, {`[{"key":"a","value":null}]`, `{"a":null}`}, {`[{"key":"a","value":false}]`, `{"a":false}`}, {`[{"key":"a","value":1,"other":2}]`, `{"a":1}`}, {`[{"Key":"a","Value":1,"k":2,"v":3,"name":"b"}]`, `{"null":null}`},
		{`[{"key":1,"value":2}]`, `{"1":2}`}, {`[{"key":-7}]`, `{"-7":null}`}, {`[{"key":0,"value":1},{"key":"0","value":2}]`, `{"0":2}`}, {`[{"key":` + greatest + `},{"key":` + least + `}]`, `{"` + least + `":null,"` + greatest + `":null}`}, {`[{"key":true,"value":1},{"key":false,"value":2}]`, `{"false":2,"true":1}`}, {`[{"key":null,"value":1}]`, `{"null":1}`}, {`[{"value":1}]`, `{"null":1}`}, {"[{}]", `{"null":null}`}, {`[{},{"key":null,"value":5},{"key":"null","value":6}]`, `{"null":6}`}, {`[{"key":"null","value":6},{"value":7}]`, `{"null":7}`}, {`[{"key":false,"value":1},{"key":"false","value":2}]`, `{"false":2}`},
		{`[{"key":[]}]`, wrongType}, {`[{"key":["a"],"value":1}]`, wrongType}, {`[{"key":{},"value":1}]`, wrongType}, {`[{"key":{"a":1}}]`, wrongType}, {`[{"key":"a","value":1},{"key":[]}]`, wrongType}, {`[{"key":[]},{"key":"a"}]`, wrongType},
		{"[1]", wrongType}, {"[null]", wrongType}, {`["a"]`, wrongType}, {"[[]]", wrongType}, {`[["a",1]]`, wrongType}, {"[true]", wrongType}, {`[{"key":"a"},null]`, wrongType}, {`[null,{"key":"a"}]`, wrongType},
		{"{}", wrongType}, {`{"a":{"key":"b"}}`, wrongType}, {`{"key":"a","value":1}`, wrongType}, {"null", wrongType}, {"1", wrongType}, {`"a"`, wrongType}, {"true", wrongType},
	})
}

func TestP9_6Transpose(t *testing.T) {
	expect(t, "Transpose", [][2]string{
		{"[]", "[]"}, {"[[]]", "[]"}, {"[[],[]]", "[]"}, {"[[1]]", "[[1]]"}, {"[[1,2]]", "[[1],[2]]"}, {"[[1],[2]]", "[[1,2]]"}, {"[[1,2],[3,4]]", "[[1,3],[2,4]]"}, {"[[1,2,3],[4,5,6]]", "[[1,4],[2,5],[3,6]]"}, {"[[1],[2,3]]", "[[1,2],[null,3]]"}, {"[[1,2],[3]]", "[[1,3],[2,null]]"}, {"[[],[1]]", "[[null,1]]"}, {"[[1],[]]", "[[1,null]]"}, {"[[],[1,2],[3],[]]", "[[null,1,3,null],[null,2,null,null]]"},
		{`[[[1],{"a":2}],["x",null]]`, `[[[1],"x"],[{"a":2},null]]`}, {"[[null]]", "[[null]]"}, {"[[null,null]]", "[[null],[null]]"}, {"[[[]]]", "[[[]]]"}, {"[[false],[true,false]]", "[[false,true],[null,false]]"},
		{"[1]", wrongType}, {"[null]", wrongType}, {`["ab"]`, wrongType}, {"[{}]", wrongType}, {`[{"a":1}]`, wrongType}, {"[[1],null]", wrongType}, {"[[1],2]", wrongType}, {"[1,[2]]", wrongType}, {"[[1],{}]", wrongType},
		{"{}", wrongType}, {`{"a":[1]}`, wrongType}, {"null", wrongType}, {"1", wrongType}, {`"a"`, wrongType}, {"true", wrongType},
	})
}

// badValues are values that are not valid.
func badValues() []api.Value {
	cycle := api.Value{Kind: api.Array, Elems: make([]api.Value, 2)}
	cycle.Elems[0], cycle.Elems[1] = cycle, cycle
	wide := num(1)
	for range 60 {
		wide = arr(many(wide, api.MaxElems)...)
	}
	bad := []api.Value{
		{Kind: -1}, {Kind: api.Object + 1}, {Kind: math.MinInt}, {Int: 1}, {Str: "a"}, {Kind: api.True, Str: "a"}, {Kind: api.Number, Str: "a"}, {Kind: api.Number, Elems: make([]api.Value, 1)},
		{Kind: api.String, Int: 1}, {Kind: api.String, Str: "a", Keys: []string{"a"}}, {Kind: api.String, Elems: make([]api.Value, 1)}, str("\xff"), str("a\xed\xa0\x80"), str("\xc3"), {Kind: api.Array, Keys: []string{"a"}}, {Kind: api.Array, Str: "a"}, {Kind: api.Object, Keys: []string{"a"}},
		{Kind: api.Object, Elems: make([]api.Value, 1)}, {Kind: api.Object, Int: 1}, obj([]string{"b", "a"}, num(1), num(2)), obj([]string{"a", "a"}, num(1), num(1)), obj([]string{"\x80"}, num(1)),
		str(strings.Repeat("x", api.MaxString+1)), arr(many(num(0), api.MaxElems+1)...), nested(num(1), api.MaxDepth+1), cycle, wide,
	}
	for _, v := range slices.Clone(bad) {
		bad = append(bad, arr(num(97), v), obj([]string{"a", "b"}, v, num(1)))
	}
	return bad
}

// An argument that is not valid comes before all other errors.
func TestNotValid(t *testing.T) {
	others := append(samples(), "[null]", "[1,2]", `{"a":1}`, `[{"key":"a"}]`, "[[1]]")
	for i, bad := range badValues() {
		for name, f := range unaries() {
			if got := outcome(f(bad)); got != invalid {
				t.Errorf("%s of bad value %d is %s", name, i, got)
			}
		}
		for name, f := range binaries() {
			for _, s := range others {
				v := valueOf(t, s)
				if first, last := outcome(f(bad, v)), outcome(f(v, bad)); first != invalid || last != invalid {
					t.Errorf("%s of bad value %d and %s is %s, the other way %s", name, i, s, first, last)
				}
			}
			if got := outcome(f(bad, bad)); got != invalid {
				t.Errorf("%s of bad value %d twice is %s", name, i, got)
			}
		}
	}
}
