package path

import (
	"math"
	"regexp"
	"slices"
	"strconv"
	"strings"
	"testing"

	"ndjq/api"
	"ndjq/jsonparse"
	"ndjq/jsonwrite"
)

// Names of errors in the tables, which are no JSON texts.
const (
	invalid    = "ErrInvalid"
	limit      = "ErrLimit"
	outOfRange = "ErrRange"
	wrongType  = "ErrType"
	greatest   = "9223372036854775807"
	least      = "-9223372036854775808"
)

func errorName(e api.Errno) string {
	switch e {
	case api.ErrInvalid:
		return invalid
	case api.ErrLimit:
		return limit
	case api.ErrRange:
		return outOfRange
	case api.ErrType:
		return wrongType
	}
	return "error " + strconv.Itoa(int(e))
}

// outcome is the text of a result, or the name of an error with which all fields of the value are zero.
func outcome(v api.Value, e api.Errno) string {
	if e == api.OK {
		return jsonwrite.Text(v)
	}
	if v.Kind != 0 || v.Int != 0 || v.Str != "" || len(v.Keys) != 0 || len(v.Elems) != 0 {
		return errorName(e) + " with a value"
	}
	return errorName(e)
}

// expand returns a text of the tables as a JSON text: <1:-2> is the slice step with these bounds, and a missing bound is null.
func expand(s string) string {
	return regexp.MustCompile(`<(-?\d*):(-?\d*)>`).ReplaceAllStringFunc(s, func(step string) string {
		from, to, _ := strings.Cut(strings.Trim(step, "<>"), ":")
		if from == "" {
			from = "null"
		}
		if to == "" {
			to = "null"
		}
		return `{"start":` + from + `,"end":` + to + `}`
	})
}

// parse returns the value of a text of the tables.
func parse(t *testing.T, s string) api.Value {
	t.Helper()
	v, _, e := jsonparse.Parse(expand(s))
	if e != api.OK {
		t.Fatal("no JSON text:", s)
	}
	return v
}

// brief shows both ends of a text.
func brief(s string) string {
	if len(s) > 80 {
		s = s[:40] + " .. " + s[len(s)-40:]
	}
	return strconv.QuoteToASCII(s)
}

// reading is a call with a value and a step or a path; want is the canonical text of the result, or the name of an error.
type reading struct {
	v, p, want string
}

func expectSteps(t *testing.T, l []reading) {
	t.Helper()
	for _, x := range l {
		if got := outcome(Step(parse(t, x.v), parse(t, x.p))); got != x.want {
			t.Errorf("Step of %s by %s is %s; expected %s", x.v, x.p, brief(got), brief(x.want))
		}
	}
}

func expectGets(t *testing.T, l []reading) {
	t.Helper()
	for _, x := range l {
		if got := outcome(Get(parse(t, x.v), parse(t, x.p))); got != x.want {
			t.Errorf("Get of %s at %s is %s; expected %s", x.v, x.p, brief(got), brief(x.want))
		}
	}
}

func expectDeletes(t *testing.T, l []reading) {
	t.Helper()
	for _, x := range l {
		if got := outcome(Delete(parse(t, x.v), parse(t, x.p))); got != x.want {
			t.Errorf("Delete of %s from %s is %s; expected %s", x.p, x.v, brief(got), brief(x.want))
		}
	}
}

type change struct {
	v, p, x, want string
}

func expectSets(t *testing.T, l []change) {
	t.Helper()
	for _, x := range l {
		if got := outcome(Set(parse(t, x.v), parse(t, x.p), parse(t, x.x))); got != x.want {
			t.Errorf("Set of %s at %s to %s is %s; expected %s", x.v, x.p, x.x, brief(got), brief(x.want))
		}
	}
}

// texts are the texts of the elements of an array.
func texts(l []api.Value) string {
	s := ""
	for _, v := range l {
		s += jsonwrite.Text(v) + " "
	}
	return strings.TrimSuffix(s, " ")
}

func TestExamples(t *testing.T) {
	expectGets(t, []reading{{"[1,[2]]", "[1,0]", "2"}, {"null", `["a",0]`, "null"}})
	expectSets(t, []change{{"null", `["a",1]`, "5", `{"a":[null,5]}`}})
	expectDeletes(t, []reading{{"[1,2,3]", "[[0],[-1]]", "[2]"}})
	expectSteps(t, []reading{{`"aéb"`, `{"start":-2,"end":null}`, `"éb"`}})
	if got := texts(Paths(parse(t, `{"a":[1]}`))); got != `["a"] ["a",0]` {
		t.Error("Paths:", got)
	}
}

// samples are texts of values of all kinds.
func samples() []string {
	return []string{
		"null", "false", "true", least, "-1", "0", "1", greatest, `""`, `"a"`, `"aéb"`, "[]", "[null]", "[1,2,3]", `["a",[1],{}]`,
		"{}", `{"a":1}`, `{"a":null,"b":[1]}`, "<:>", "<1:2>", "<-1:>", "<:-1>",
	}
}

// noSteps are texts of values that are no steps.
func noSteps() []string {
	return []string{
		"null", "false", "true", "[]", "[0]", `["a"]`, "[<:>]", "{}", `{"start":0}`, `{"end":0}`, `{"start":0,"end":1,"step":1}`, `{"start":0,"end":1,"a":1}`, `{"a":0,"b":1}`, `{"end":0,"starts":1}`, `{"begin":0,"end":1}`,
		`{"Start":0,"End":1}`, `{"end":0,"from":1}`, `{"start":"0","end":1}`, `{"start":0,"end":"1"}`, `{"start":false,"end":null}`, `{"start":null,"end":true}`, `{"start":[],"end":null}`, `{"start":null,"end":{}}`, `{"start":<:>,"end":null}`,
	}
}

func TestP7_1NoStep(t *testing.T) {
	for _, v := range samples() {
		for _, s := range noSteps() {
			expectSteps(t, []reading{{v, s, wrongType}})
			expectGets(t, []reading{{v, "[" + s + "]", wrongType}, {v, "[" + s + ",0]", wrongType}})
			expectSets(t, []change{{v, "[" + s + "]", "1", wrongType}, {v, "[" + s + "]", "[]", wrongType}, {v, "[" + s + `,"a"]`, "1", wrongType}})
			expectDeletes(t, []reading{{v, "[[" + s + "]]", wrongType}, {v, "[[" + s + `,"a"]]`, wrongType}})
		}
	}
}

// The steps fit these kinds of values and no others.
func TestP7_1Types(t *testing.T) {
	fits := map[string]string{
		`"a"`: "null object", `""`: "null object", "0": "null array", "-1": "null array", greatest: "null array", least: "null array",
		"<:>": "null array string", "<0:1>": "null array string", "<-2:>": "null array string", "<:-1>": "null array string",
	}
	kinds := []string{"null", "false", "true", "number", "string", "array", "object"}
	for s, names := range fits {
		for _, text := range samples() {
			v := parse(t, text)
			want := slices.Contains(strings.Fields(names), kinds[v.Kind])
			if _, e := Step(v, parse(t, s)); (e == api.OK) != want || e != api.OK && e != api.ErrType {
				t.Errorf("Step of %s by %s has %s", text, s, errorName(e))
			}
		}
	}
}

func TestP7_1Step(t *testing.T) {
	expectSteps(t, []reading{
		{"null", `"a"`, "null"}, {"null", `""`, "null"}, {"null", "0", "null"}, {"null", "-1", "null"}, {"null", greatest, "null"}, {"null", "<:>", "null"}, {"null", "<1:2>", "null"}, {"null", "<:-1>", "null"},
		{`{"a":1,"b":[2]}`, `"a"`, "1"}, {`{"a":1,"b":[2]}`, `"b"`, "[2]"}, {`{"a":1,"b":[2]}`, `"c"`, "null"}, {`{"a":1,"b":[2]}`, `""`, "null"}, {`{"a":1,"b":[2]}`, `"A"`, "null"}, {`{"a":1,"b":[2]}`, `"aa"`, "null"}, {"{}", `"a"`, "null"},
		{`{"":5}`, `""`, "5"}, {`{"é":{"a":1}}`, `"é"`, `{"a":1}`}, {`{"a":null}`, `"a"`, "null"}, {`{"a":false}`, `"a"`, "false"}, {`{"0":1}`, `"0"`, "1"}, {`{"end":1,"start":2}`, `"start"`, "2"},
		{"[1,2,3]", "0", "1"}, {"[1,2,3]", "1", "2"}, {"[1,2,3]", "2", "3"}, {"[1,2,3]", "3", "null"}, {"[1,2,3]", "-1", "3"}, {"[1,2,3]", "-2", "2"}, {"[1,2,3]", "-3", "1"}, {"[1,2,3]", "-4", "null"},
		{"[1,2,3]", greatest, "null"}, {"[1,2,3]", least, "null"}, {"[1,2,3]", "4294967296", "null"}, {"[1,2,3]", "-4294967297", "null"}, {"[]", "0", "null"}, {"[]", "-1", "null"}, {`[[1,{"a":2}]]`, "0", `[1,{"a":2}]`},
		{"[1]", `"a"`, wrongType}, {"[1]", `"0"`, wrongType}, {"{}", "0", wrongType}, {`{"0":1}`, "0", wrongType}, {"{}", "<:>", wrongType}, {`{"end":1,"start":2}`, "<:>", wrongType}, {`"a"`, "0", wrongType}, {`"a"`, "-1", wrongType}, {`"a"`, `"a"`, wrongType},
		{"1", "0", wrongType}, {"1", `"a"`, wrongType}, {"1", "<:>", wrongType}, {"true", "0", wrongType}, {"false", `"a"`, wrongType}, {"true", "<:>", wrongType}, {"false", "<:>", wrongType},
	})
}

func TestP7_1Slices(t *testing.T) {
	slicesOfFour := map[string]string{
		"<:>": "abcd", "<0:>": "abcd", "<:4>": "abcd", "<0:4>": "abcd", "<1:>": "bcd", "<:1>": "a", "<1:3>": "bc", "<3:>": "d", "<4:>": "", "<5:>": "", "<:0>": "", "<:5>": "abcd", "<2:9>": "cd", "<9:12>": "", "<2:2>": "", "<3:1>": "", "<4:4>": "", "<0:0>": "",
		"<-1:>": "d", "<-4:>": "abcd", "<-5:>": "abcd", "<-9:>": "abcd", "<:-1>": "abc", "<:-3>": "a", "<:-4>": "", "<:-5>": "", "<-3:-1>": "bc", "<-1:-3>": "", "<-2:2>": "", "<-3:2>": "b", "<1:-1>": "bc", "<3:-1>": "", "<-9:9>": "abcd", "<-9:-4>": "", "<9:-9>": "",
		"<" + least + ":" + greatest + ">": "abcd", "<" + greatest + ":" + least + ">": "", "<" + least + ":>": "abcd", "<" + greatest + ":>": "", "<:" + least + ">": "", "<:" + greatest + ">": "abcd", "<4294967296:>": "", "<:4294967297>": "abcd", "<-4294967295:>": "abcd",
	}
	replacer := strings.NewReplacer("a", "a", "b", "é", "c", "€", "d", "😀")
	for s, want := range slicesOfFour {
		long := replacer.Replace(want)
		list := "[]"
		if want != "" {
			list = `["` + strings.Join(strings.Split(want, ""), `","`) + `"]`
		}
		expectSteps(t, []reading{{`["a","b","c","d"]`, s, list}, {`"abcd"`, s, `"` + want + `"`}, {`"aé€😀"`, s, `"` + long + `"`}, {"[]", s, "[]"}, {`""`, s, `""`}})
	}
	expectSteps(t, []reading{{`[[1],{"a":[2]},3]`, "<1:>", `[{"a":[2]},3]`}, {`[[1],{"a":[2]},3]`, "<:2>", `[[1],{"a":[2]}]`}, {`"\u0000\n\""`, "<1:>", `"\n\""`}, {"[null,null]", "<1:>", "[null]"}})
}

func TestP7_1Get(t *testing.T) {
	for _, s := range samples() {
		expectGets(t, []reading{{s, "[]", outcome(parse(t, s), api.OK)}, {s, "null", wrongType}, {s, `"a"`, wrongType}, {s, "0", wrongType}, {s, "{}", wrongType}, {s, "<:>", wrongType}, {s, "true", wrongType}, {s, "false", wrongType}})
	}
	v := `{"a":[{"b":[10,20,30]},"xéy"],"c":null}`
	expectGets(t, []reading{
		{v, `["a"]`, `[{"b":[10,20,30]},"xéy"]`}, {v, `["a",0]`, `{"b":[10,20,30]}`}, {v, `["a",0,"b"]`, "[10,20,30]"}, {v, `["a",0,"b",1]`, "20"}, {v, `["a",-2,"b",-1]`, "30"}, {v, `["a",0,"b",<1:>]`, "[20,30]"}, {v, `["a",0,"b",<1:>,0]`, "20"},
		{v, `["a",<0:1>,0,"b",<-1:>]`, "[30]"}, {v, `["a",1,<1:>]`, `"éy"`}, {v, `["a",1,<1:>,<:1>]`, `"é"`}, {v, `["a",-1,<-2:>,<:-1>]`, `"é"`}, {v, `["c"]`, "null"}, {v, `["c","d",0,<:>,-1]`, "null"}, {v, `["x"]`, "null"}, {v, `["x",0,"y"]`, "null"}, {v, `["a",9,"b",9]`, "null"}, {v, `["a",0,"b",7]`, "null"},
		{v, `["a","b"]`, wrongType}, {v, `[0]`, wrongType}, {v, `["a",0,"b",1,0]`, wrongType}, {v, `["a",1,0]`, wrongType}, {v, `["a",1,<:>,0]`, wrongType}, {v, `["c",null]`, wrongType}, {v, `["x",[0]]`, wrongType}, {v, `["x","y",{}]`, wrongType}, {v, `[0,"a"]`, wrongType}, {v, `["a",<:>,"b"]`, wrongType},
		{"[[1,2],[3]]", "[0,1]", "2"}, {"[[1,2],[3]]", "[1,0]", "3"}, {"[[1,2],[3]]", "[-1,-1]", "3"}, {"[1,2,3,4,5]", "[<1:>,<1:>,<1:>,0]", "4"}, {"[1,2,3,4,5]", "[<:-1>,<:-1>,-1]", "3"},
	})
}

func TestP7_2Members(t *testing.T) {
	expectSets(t, []change{
		{"{}", `["a"]`, "1", `{"a":1}`}, {"null", `["a"]`, "1", `{"a":1}`}, {"null", `[""]`, "null", `{"":null}`}, {`{"a":1}`, `["a"]`, "2", `{"a":2}`}, {`{"a":1}`, `["a"]`, "null", `{"a":null}`}, {`{"a":1}`, `["b"]`, "[2]", `{"a":1,"b":[2]}`}, {`{"b":1}`, `["a"]`, "2", `{"a":2,"b":1}`},
		{`{"a":1,"c":3}`, `["b"]`, "2", `{"a":1,"b":2,"c":3}`}, {`{"a":1,"b":2,"c":3}`, `["b"]`, "{}", `{"a":1,"b":{},"c":3}`}, {`{"a":1}`, `[""]`, "0", `{"":0,"a":1}`}, {`{"z":1}`, `["é"]`, "0", `{"z":1,"é":0}`}, {`{"a":1}`, `["aa"]`, "0", `{"a":1,"aa":0}`},
		{`{"a":{"b":1}}`, `["a","b"]`, "2", `{"a":{"b":2}}`}, {`{"a":{"b":1}}`, `["a","c"]`, "2", `{"a":{"b":1,"c":2}}`}, {`{"a":{"b":1}}`, `["c","d"]`, "2", `{"a":{"b":1},"c":{"d":2}}`}, {"null", `["a","b","c"]`, "1", `{"a":{"b":{"c":1}}}`}, {`{"a":null}`, `["a","b"]`, "1", `{"a":{"b":1}}`}, {`{"a":null}`, `["a",1]`, "1", `{"a":[null,1]}`},
		{"[]", `["a"]`, "1", wrongType}, {"1", `["a"]`, "1", wrongType}, {`"a"`, `["a"]`, "1", wrongType}, {"true", `["a"]`, "1", wrongType}, {"false", `["a"]`, "1", wrongType}, {`{"a":1}`, `["a","b"]`, "1", wrongType}, {`{"a":[1]}`, `["a","b"]`, "1", wrongType}, {`{"a":"b"}`, `["a","b"]`, "1", wrongType},
	})
}

func TestP7_2Elements(t *testing.T) {
	expectSets(t, []change{
		{"[]", "[0]", "1", "[1]"}, {"null", "[0]", "1", "[1]"}, {"null", "[2]", "1", "[null,null,1]"}, {"[1,2,3]", "[0]", "9", "[9,2,3]"}, {"[1,2,3]", "[1]", "9", "[1,9,3]"}, {"[1,2,3]", "[2]", "9", "[1,2,9]"}, {"[1,2,3]", "[3]", "9", "[1,2,3,9]"}, {"[1,2,3]", "[5]", "9", "[1,2,3,null,null,9]"}, {"[1]", "[2]", "null", "[1,null,null]"},
		{"[1,2,3]", "[-1]", "9", "[1,2,9]"}, {"[1,2,3]", "[-2]", "9", "[1,9,3]"}, {"[1,2,3]", "[-3]", "9", "[9,2,3]"}, {"[1,2,3]", "[-4]", "9", outOfRange}, {"[1,2,3]", "[" + least + "]", "9", outOfRange}, {"[]", "[-1]", "9", outOfRange}, {"null", "[-1]", "9", outOfRange}, {"null", "[" + least + "]", "9", outOfRange}, {"[1]", "[-4294967296]", "9", outOfRange},
		{"[1]", "[" + greatest + "]", "9", limit}, {"null", "[" + greatest + "]", "9", limit}, {"[1]", "[4294967296]", "9", limit}, {"[1]", "[1024]", "9", limit}, {"[1]", "[2147483648]", "9", limit},
		{"[[1,2],[3]]", "[0,1]", "9", "[[1,9],[3]]"}, {"[[1,2],[3]]", "[-1,-1]", "9", "[[1,2],[9]]"}, {"[[1,2],[3]]", "[1,1]", "[9]", "[[1,2],[3,[9]]]"}, {"[]", "[1,1]", "9", "[null,[null,9]]"}, {"null", `[0,"a",0]`, "1", `[{"a":[1]}]`}, {"[null]", `[0,"a"]`, "1", `[{"a":1}]`}, {"[{}]", `[-1,"a"]`, "1", `[{"a":1}]`},
		{"[1]", `[0,0]`, "1", wrongType}, {"[{}]", "[0,0]", "1", wrongType}, {"{}", "[0]", "1", wrongType}, {"1", "[0]", "1", wrongType}, {`"a"`, "[0]", "1", wrongType}, {"true", "[0]", "1", wrongType}, {"false", "[-1]", "1", wrongType},
	})
}

func TestP7_2Slices(t *testing.T) {
	expectSets(t, []change{
		{"[1,2,3,4]", "[<1:3>]", "[8,9]", "[1,8,9,4]"}, {"[1,2,3,4]", "[<1:3>]", "[]", "[1,4]"}, {"[1,2,3,4]", "[<1:3>]", "[7]", "[1,7,4]"}, {"[1,2,3,4]", "[<1:3>]", "[6,7,8,9]", "[1,6,7,8,9,4]"}, {"[1,2,3,4]", "[<:>]", "[9]", "[9]"}, {"[1,2,3,4]", "[<:>]", "[]", "[]"}, {"[1,2,3,4]", "[<:2>]", "[[5]]", "[[5],3,4]"}, {"[1,2,3,4]", "[<2:>]", "[null]", "[1,2,null]"},
		{"[1,2,3,4]", "[<-1:>]", "[8,9]", "[1,2,3,8,9]"}, {"[1,2,3,4]", "[<:-1>]", "[9]", "[9,4]"}, {"[1,2,3,4]", "[<-3:-1>]", "[9]", "[1,9,4]"}, {"[1,2,3,4]", "[<-9:1>]", "[9]", "[9,2,3,4]"}, {"[1,2,3,4]", "[<3:99>]", "[9]", "[1,2,3,9]"}, {"[1,2]", "[<" + least + ":" + greatest + ">]", "[9]", "[9]"},
		{"[1,2,3,4]", "[<2:2>]", "[9]", "[1,2,9,3,4]"}, {"[1,2,3,4]", "[<2:1>]", "[9]", "[1,2,9,3,4]"}, {"[1,2,3,4]", "[<3:0>]", "[8,9]", "[1,2,3,8,9,4]"}, {"[1,2,3,4]", "[<-1:-3>]", "[9]", "[1,2,3,9,4]"}, {"[1,2,3,4]", "[<0:0>]", "[9]", "[9,1,2,3,4]"}, {"[1,2,3,4]", "[<9:>]", "[9]", "[1,2,3,4,9]"}, {"[1,2,3,4]", "[<9:2>]", "[9]", "[1,2,3,4,9]"}, {"[1,2]", "[<" + greatest + ":" + least + ">]", "[9]", "[1,2,9]"}, {"[1,2,3,4]", "[<2:1>]", "[]", "[1,2,3,4]"},
		{"[]", "[<:>]", "[1]", "[1]"}, {"[]", "[<3:5>]", "[1]", "[1]"}, {"null", "[<:>]", "[1,2]", "[1,2]"}, {"null", "[<5:9>]", "[1]", "[1]"}, {"null", "[<-5:-9>]", "[1]", "[1]"}, {"null", "[<:>]", "[]", "[]"},
		{"[1,2,3,4]", "[<1:3>,0]", "9", "[1,9,3,4]"}, {"[1,2,3,4]", "[<1:3>,-1]", "9", "[1,2,9,4]"}, {"[1,2,3,4]", "[<1:3>,2]", "9", "[1,2,3,9,4]"}, {"[1,2,3,4]", "[<1:3>,4]", "9", "[1,2,3,null,null,9,4]"}, {"[1,2,3,4]", "[<1:3>,<1:>]", "[8,9]", "[1,2,8,9,4]"}, {"[1,2,3,4]", "[<1:>,<1:>,<1:>]", "[]", "[1,2,3]"}, {"[1,[2],3]", "[<1:>,0,0]", "9", "[1,[9],3]"},
		{"null", "[<:>,0]", "1", "[1]"}, {"null", "[<2:>,1]", "1", "[null,1]"}, {"null", "[<:>,<:>]", "[1]", "[1]"}, {"[1,2]", "[<1:0>,0]", "9", "[1,9,2]"}, {"[1]", "[<1:>,-1]", "9", outOfRange}, {"[1]", "[<:>,-2]", "9", outOfRange}, {"[1,2]", "[<2:>,<:>,-1]", "9", outOfRange},
		{"[1]", "[<:>]", "1", wrongType}, {"[1]", "[<:>]", "null", wrongType}, {"[1]", "[<:>]", `"a"`, wrongType}, {"[1]", "[<:>]", "{}", wrongType}, {"[1]", "[<:>]", "<:>", wrongType}, {"null", "[<:>]", "null", wrongType}, {"null", "[<:>]", "1", wrongType}, {"null", `[<:>,"a"]`, "1", wrongType}, {"[]", `[<:>,"a"]`, "1", wrongType}, {"[1]", "[<:>,0,0]", "1", wrongType},
		{`"ab"`, "[<:>]", `"x"`, wrongType}, {`"ab"`, "[<:>]", "[1]", wrongType}, {`"ab"`, "[<:>,<:>]", "[1]", wrongType}, {`""`, "[<:>]", `""`, wrongType}, {`"ab"`, "[<0:0>]", "[]", wrongType}, {`{"a":"b"}`, `["a",<:>]`, "[]", wrongType}, {"{}", "[<:>]", "[]", wrongType}, {"1", "[<:>]", "[]", wrongType}, {"true", "[<:>]", "[]", wrongType},
	})
}

func TestP7_2NoSteps(t *testing.T) {
	for _, v := range samples() {
		for _, x := range samples() {
			expectSets(t, []change{{v, "[]", x, outcome(parse(t, x), api.OK)}, {v, "null", x, wrongType}, {v, `"a"`, x, wrongType}, {v, "0", x, wrongType}, {v, "{}", x, wrongType}, {v, "<:>", x, wrongType}, {v, "true", x, wrongType}})
		}
	}
}

// The errors of a step are those of Step, then those of the steps behind it, then its own ones.
func TestP7_2OrderOfErrors(t *testing.T) {
	expectSets(t, []change{
		{"[]", `["a",-1]`, "1", wrongType}, {"{}", "[0,-1]", "1", wrongType}, {"[]", `["a",5000]`, "1", wrongType}, {"1", "[0,5000]", "1", wrongType}, {"[]", "[true,-1]", "1", wrongType}, {`"ab"`, "[0,5000]", "1", wrongType},
		{"[]", "[-1,5000]", "1", limit}, {"null", "[-1,5000]", "1", limit}, {"[]", "[-1,true]", "1", wrongType}, {"[]", `[-1,<:>]`, "1", wrongType}, {"[]", "[-1,-1]", "1", outOfRange}, {"[]", "[-1,0]", "1", outOfRange}, {"[]", `[-1,"a"]`, "1", outOfRange}, {"[]", `[-1,0,"a",5000]`, "1", limit}, {"[1]", "[-2,<:>,5000]", "1", limit},
		{"null", `[<:>,"a",5000]`, "1", limit}, {"null", `[<:>,"a",-1]`, "1", outOfRange}, {"null", `[<:>,"a",0]`, "1", wrongType}, {"[]", "[<:>,-1]", "1", outOfRange}, {"[]", "[<:>,5000]", "1", limit}, {"[[]]", "[<:>,0,-1]", "1", outOfRange}, {`"ab"`, "[<:>,0]", "1", wrongType},
		{"[]", "[5000,-1]", "1", outOfRange}, {"[]", "[5000,true]", "1", wrongType}, {"[]", "[5000,5000]", "1", limit}, {"[]", `[5000,<:>]`, "1", wrongType}, {"[]", `[5000,"a"]`, "1", limit},
	})
}

func TestP7_3Delete(t *testing.T) {
	for _, s := range samples() {
		all := outcome(parse(t, s), api.OK)
		expectDeletes(t, []reading{{s, "[]", all}, {s, "[[]]", "null"}, {s, "[[],[]]", "null"}})
	}
	expectDeletes(t, []reading{
		{"[1,2,3]", "[[0]]", "[2,3]"}, {"[1,2,3]", "[[1]]", "[1,3]"}, {"[1,2,3]", "[[2]]", "[1,2]"}, {"[1,2,3]", "[[3]]", "[1,2,3]"}, {"[1,2,3]", "[[-1]]", "[1,2]"}, {"[1,2,3]", "[[-3]]", "[2,3]"}, {"[1,2,3]", "[[-4]]", "[1,2,3]"}, {"[1,2,3]", "[[" + greatest + "]]", "[1,2,3]"}, {"[1,2,3]", "[[" + least + "]]", "[1,2,3]"}, {"[]", "[[0]]", "[]"}, {"[]", "[[-1]]", "[]"}, {"[1]", "[[0]]", "[]"},
		{`{"a":1,"b":2}`, `[["a"]]`, `{"b":2}`}, {`{"a":1,"b":2}`, `[["b"]]`, `{"a":1}`}, {`{"a":1,"b":2}`, `[["c"]]`, `{"a":1,"b":2}`}, {`{"a":1,"b":2,"c":3}`, `[["b"]]`, `{"a":1,"c":3}`}, {`{"a":null}`, `[["a"]]`, "{}"}, {"{}", `[["a"]]`, "{}"}, {`{"":1,"a":2}`, `[[""]]`, `{"a":2}`}, {`{"a":1,"b":2}`, `[["a"],["b"]]`, "{}"}, {`{"a":1,"b":2}`, `[["b"],["a"],["c"]]`, "{}"},
		{`{"a":[1,{"b":2}]}`, `[["a",0]]`, `{"a":[{"b":2}]}`}, {`{"a":[1,{"b":2}]}`, `[["a",1,"b"]]`, `{"a":[1,{}]}`}, {`{"a":[1,{"b":2}]}`, `[["a",-1,"b"]]`, `{"a":[1,{}]}`}, {`{"a":[1,{"b":2}]}`, `[["a",1]]`, `{"a":[1]}`}, {`{"a":[1,{"b":2}]}`, `[["a",1,"b"],["a",0]]`, `{"a":[{}]}`}, {`{"a":[1,{"b":2}]}`, `[["a"],["a",1,"b"]]`, "{}"}, {`{"a":[1,{"b":2}]}`, `[["a",1,"c"],["a",7],["b"]]`, `{"a":[1,{"b":2}]}`},
		{`{"a":{"b":1,"c":2},"d":{"b":3}}`, `[["a","b"],["d","b"]]`, `{"a":{"c":2},"d":{}}`}, {"[[1,2],[3,4]]", "[[0,0],[1,1]]", "[[2],[3]]"}, {"[[1,2],[3,4]]", "[[0],[1,0]]", "[[4]]"},
	})
}

func TestP7_3Slices(t *testing.T) {
	expectDeletes(t, []reading{
		{"[1,2,3,4]", "[[<1:3>]]", "[1,4]"}, {"[1,2,3,4]", "[[<:>]]", "[]"}, {"[1,2,3,4]", "[[<:2>]]", "[3,4]"}, {"[1,2,3,4]", "[[<2:>]]", "[1,2]"}, {"[1,2,3,4]", "[[<-1:>]]", "[1,2,3]"}, {"[1,2,3,4]", "[[<:-1>]]", "[4]"}, {"[1,2,3,4]", "[[<-3:-1>]]", "[1,4]"}, {"[1,2,3,4]", "[[<3:1>]]", "[1,2,3,4]"}, {"[1,2,3,4]", "[[<2:2>]]", "[1,2,3,4]"}, {"[1,2,3,4]", "[[<9:>]]", "[1,2,3,4]"}, {"[1,2,3,4]", "[[<-9:9>]]", "[]"}, {"[]", "[[<:>]]", "[]"}, {"[1,2]", "[[<" + least + ":" + greatest + ">]]", "[]"},
		{"[1,2,3,4]", "[[<1:3>,0]]", "[1,3,4]"}, {"[1,2,3,4]", "[[<1:3>,-1]]", "[1,2,4]"}, {"[1,2,3,4]", "[[<1:3>,2]]", "[1,2,3,4]"}, {"[1,2,3,4]", "[[<1:3>,<1:>]]", "[1,2,4]"}, {"[1,2,3,4]", "[[<1:>,<1:>,<1:>]]", "[1,2,3]"}, {`[1,{"a":2,"b":3}]`, `[[<1:>,0,"a"]]`, `[1,{"b":3}]`}, {"[1,[2,3],4]", "[[<1:2>,0,<:1>]]", "[1,[3],4]"}, {"[1,2]", "[[<5:>,0]]", "[1,2]"}, {"[]", "[[<:>,0]]", "[]"},
		{`{"a":[1,2,3]}`, `[["a",<1:>]]`, `{"a":[1]}`}, {`{"a":[1,2,3]}`, `[["a",<1:>,0]]`, `{"a":[1,3]}`}, {`{"a":[1,2,3]}`, `[["b",<1:>,0]]`, `{"a":[1,2,3]}`},
	})
}

// Each path denotes a part of what the paths before it have left.
func TestP7_3Order(t *testing.T) {
	expectDeletes(t, []reading{
		{"[1,2,3,4]", "[[0],[1],[3]]", "[3]"}, {"[1,2,3,4]", "[[3],[1],[0]]", "[3]"}, {"[1,2,3,4]", "[[1],[1],[1]]", "[1,3,4]"}, {"[1,2,3,4]", "[[1],[0],[1],[0]]", "[3,4]"}, {"[1,2,3,4]", "[[-1],[-2]]", "[1,3]"}, {"[1,2,3,4]", "[[-2],[-1]]", "[1,3]"}, {"[1,2,3,4]", "[[3],[-1]]", "[1,2]"}, {"[1,2,3,4]", "[[0],[-4]]", "[2,3,4]"}, {"[1,2,3,4]", "[[1],[-1],[-3]]", "[1,3]"}, {"[1,2,3,4]", "[[-3],[1],[-2]]", "[1,4]"},
		{"[1,2,3,4,5]", "[[<1:2>],[0]]", "[3,4,5]"}, {"[1,2,3,4,5]", "[[0],[<0:2>]]", "[4,5]"}, {"[1,2,3,4,5]", "[[<0:1>],[<1:2>]]", "[3,4,5]"}, {"[1,2,3,4,5]", "[[<1:2>],[<0:2>]]", "[4,5]"}, {"[1,2,3,4,5]", "[[<0:2>],[<0:2>]]", "[3,4,5]"}, {"[1,2,3,4,5]", "[[<:2>],[<0:2>]]", "[5]"}, {"[1,2,3,4,5]", "[[<-2:>],[-1]]", "[1,2]"}, {"[1,2,3,4,5]", "[[<0:>],[<0:1>]]", "[]"}, {"[1,2,3,4,5]", "[[<1:>],[<0:2>]]", "[3]"},
		{"[[1,2],[3]]", "[[0,0],[0]]", "[[3]]"}, {"[[1,2],[3]]", "[[0],[0,0]]", "[[3]]"}, {"[[1,2],[3]]", "[[-1,0],[0]]", "[[]]"}, {"[[1,2],[3]]", "[[-1,0],[1]]", "[[2]]"}, {"[[1],[2]]", "[[0,0],[-2]]", "[[2]]"}, {"[[1,2],3]", "[[0,0],[0,0],[0,1]]", "[[],3]"},
		{`{"a":[1,2]}`, `[["a",0],["a"]]`, "{}"}, {`{"a":[1,2]}`, `[[],["a",0]]`, "null"}, {`{"a":1}`, `[[],["b"],["a"]]`, "null"}, {`{"a":{"a":{"a":1}}}`, `[["a"],["a","a"],["a","a","a"]]`, "{}"},
	})
}

func TestP7_3Null(t *testing.T) {
	for _, p := range []string{`["a"]`, `[""]`, "[0]", "[-1]", "[" + greatest + "]", "[<:>]", "[<1:2>]", `["a",0]`, `[0,"a"]`, "[<:>,0]", `["a","b",<:>]`} {
		expectDeletes(t, []reading{{"null", "[" + p + "]", "null"}, {"null", "[" + p + ",[5]]", "null"}, {"null", "[[]," + p + "]", "null"}})
		expectDeletes(t, []reading{{"[null]", "[[0," + p[1:] + "]", "[null]"}, {`{"a":null,"b":1}`, `[["a",` + p[1:] + "]", `{"a":null,"b":1}`}})
	}
}

// Steps behind a part that does not exist are not used.
func TestP7_3StepsThatAreNotUsed(t *testing.T) {
	for _, s := range append(noSteps(), `"a"`, "0", "<:>") {
		expectDeletes(t, []reading{
			{"{}", `[["a",` + s + "]]", "{}"}, {`{"a":1}`, `[["b",` + s + "]]", `{"a":1}`}, {"[]", "[[0," + s + "]]", "[]"}, {"[1]", "[[1," + s + "]]", "[1]"}, {"[1]", "[[-2," + s + "]]", "[1]"}, {"null", `[["a",` + s + "]]", "null"}, {"null", "[[0," + s + "]]", "null"}, {"null", "[[<:>," + s + "]]", "null"},
			{`{"a":[null]}`, `[["a",0,"b",` + s + "]]", `{"a":[null]}`}, {`{"a":[null]}`, `[["a",1,` + s + "]]", `{"a":[null]}`},
		})
	}
}

func TestP7_3Errors(t *testing.T) {
	for _, s := range samples() {
		v := parse(t, s)
		if v.Kind != api.Array {
			expectDeletes(t, []reading{{"[1]", s, wrongType}, {"null", s, wrongType}, {"[1]", "[" + s + "]", wrongType}, {"null", "[" + s + "]", wrongType}, {"[1]", "[[0]," + s + "]", wrongType}, {"[1]", "[" + s + ",[]]", wrongType}, {`{"a":1}`, `[[],["b"],` + s + "]", wrongType}})
		}
	}
	expectDeletes(t, []reading{
		{"[1]", `[["a"]]`, wrongType}, {"{}", "[[0]]", wrongType}, {"{}", "[[<:>]]", wrongType}, {"1", "[[0]]", wrongType}, {"1", `[["a"]]`, wrongType}, {"1", "[[<:>]]", wrongType}, {"true", "[[0]]", wrongType}, {"false", `[["a"]]`, wrongType}, {`"a"`, "[[0]]", wrongType}, {`"a"`, `[["a"]]`, wrongType},
		{`"abc"`, "[[<:>]]", wrongType}, {`"abc"`, "[[<1:0>]]", wrongType}, {`""`, "[[<:>]]", wrongType}, {`"abc"`, "[[<:>,<:>]]", wrongType}, {`"abc"`, "[[<:>,0]]", wrongType}, {`["abc"]`, "[[0,<:>]]", wrongType}, {`{"a":"b"}`, `[["a",<:1>]]`, wrongType}, {`["abc"]`, "[[<:>,0,<:>]]", wrongType},
		{"[1]", "[[0,0]]", wrongType}, {"[1,[2]]", `[[1,"a"]]`, wrongType}, {"[1,[2]]", "[[1,0,0]]", wrongType}, {`{"a":1}`, `[["a","b"]]`, wrongType}, {`{"a":1}`, `[["a"],["a","b"]]`, wrongType}, {`{"a":1}`, `[[],["a","b"]]`, wrongType}, {"[1]", "[[0],[<:>,0,0]]", wrongType}, {"[1]", "[[],[0],[0,0]]", wrongType}, {"[1,2]", `[[0],["a"]]`, wrongType}, {"{}", `[["a"],[0]]`, wrongType},
		{"[1,2]", "[[<:>,null]]", wrongType}, {"[]", "[[<:>,null]]", wrongType}, {"[1]", "[[<5:>,{}]]", wrongType}, {"[1]", `[[<:>,"a"]]`, wrongType}, {"[]", `[[<:>,"a"]]`, wrongType}, {"[]", "[[<:>,<:>,[]]]", wrongType},
	})
	// Paths of parts that are removed before do not fail.
	expectDeletes(t, []reading{{"[1,[2]]", "[[1],[1,0]]", "[1]"}, {"[[1],2]", "[[1],[0],[0,0]]", "[]"}, {"[[1],2]", "[[1,0]]", wrongType}, {"[1,[2]]", "[[0,0],[1]]", wrongType}, {"[1,[2]]", "[[<:1>],[0,0]]", "[[]]"}})
}

func TestP7_4Paths(t *testing.T) {
	for s, want := range map[string]string{
		"null": "", "false": "", "true": "", "0": "", `"ab"`: "", "[]": "", "{}": "", "[null]": "[0]", "[[]]": "[0]", "[1,2,3]": "[0] [1] [2]", "[[1],[2,3]]": "[0] [0,0] [1] [1,0] [1,1]", "[[[[]]]]": "[0] [0,0] [0,0,0]",
		`{"a":1}`: `["a"]`, `{"b":1,"a":[2],"":{"c":3}}`: `[""] ["","c"] ["a"] ["a",0] ["b"]`, `[{"a":[1]},[]]`: `[0] [0,"a"] [0,"a",0] [1]`, `{"start":null,"end":null}`: `["end"] ["start"]`, `{"é":{"0":[{}]}}`: `["é"] ["é","0"] ["é","0",0]`,
		"[0,[1,[2,[3],4],5],6]": "[0] [1] [1,0] [1,1] [1,1,0] [1,1,1] [1,1,1,0] [1,1,2] [1,2] [2]",
	} {
		if got := texts(Paths(parse(t, s))); got != want {
			t.Errorf("Paths of %s: %s; expected %s", s, got, want)
		}
	}
	for i, bad := range badValues() {
		if got := Paths(bad); len(got) != 0 {
			t.Errorf("Paths of bad value %d: %d", i, len(got))
		}
	}
}

func TestP7_4SliceStep(t *testing.T) {
	for _, x := range []struct{ from, to, want string }{
		{"1", "2", `{"end":2,"start":1}`}, {"null", "null", `{"end":null,"start":null}`}, {"-1", "null", `{"end":null,"start":-1}`}, {"null", "0", `{"end":0,"start":null}`}, {least, greatest, `{"end":` + greatest + `,"start":` + least + "}"}, {"2", "1", `{"end":1,"start":2}`},
	} {
		if got := outcome(SliceStep(parse(t, x.from), parse(t, x.to))); got != x.want {
			t.Errorf("SliceStep of %s and %s is %s", x.from, x.to, got)
		}
	}
	for _, s := range []string{"false", "true", `""`, `"1"`, "[]", "[1]", "{}", "<:>"} {
		for _, other := range []string{"null", "0", "-1", s, "true"} {
			v, w := parse(t, s), parse(t, other)
			if first, last := outcome(SliceStep(v, w)), outcome(SliceStep(w, v)); first != wrongType || last != wrongType {
				t.Errorf("SliceStep of %s and %s is %s, the other way %s", s, other, first, last)
			}
		}
	}
	for i, bad := range badValues() {
		for _, s := range []string{"null", "1", "true", "[]"} {
			v := parse(t, s)
			if first, last := outcome(SliceStep(bad, v)), outcome(SliceStep(v, bad)); first != invalid || last != invalid {
				t.Errorf("SliceStep of bad value %d and %s is %s, the other way %s", i, s, first, last)
			}
		}
	}
}

// badValues are values that are not valid.
func badValues() []api.Value {
	cycle := api.Value{Kind: api.Array, Elems: make([]api.Value, 2)}
	cycle.Elems[0], cycle.Elems[1] = cycle, cycle
	wide := num(1)
	for range 60 {
		wide = arr(many(wide, api.MaxElems)...)
	}
	bad := []api.Value{
		{Kind: -1}, {Kind: api.Object + 1}, {Kind: math.MinInt}, {Int: 1}, {Str: "a"}, {Kind: api.True, Str: "a"}, {Kind: api.Number, Str: "a"}, {Kind: api.Number, Elems: make([]api.Value, 1)},
		{Kind: api.String, Int: 1}, str("\xff"), str("a\xed\xa0\x80"), {Kind: api.Array, Keys: []string{"a"}}, {Kind: api.Object, Keys: []string{"a"}},
		{Kind: api.Object, Elems: make([]api.Value, 1)}, {Kind: api.Object, Int: 1}, obj([]string{"b", "a"}, num(1), num(2)), obj([]string{"a", "a"}, num(1), num(1)), obj([]string{"\x80"}, num(1)), obj([]string{"start", "end"}, num(0), num(1)),
		str(strings.Repeat("x", api.MaxString+1)), arr(many(num(0), api.MaxElems+1)...), nested(num(1), api.MaxDepth+1), cycle, wide,
	}
	for _, v := range slices.Clone(bad) {
		bad = append(bad, arr(num(1), v), obj([]string{"a", "b"}, v, num(1)))
	}
	return bad
}

// An argument that is not valid comes before all other errors.
func TestNotValid(t *testing.T) {
	expect := func(name string, i int, s string, got string) {
		t.Helper()
		if got != invalid {
			t.Errorf("%s of bad value %d and %s is %s", name, i, s, got)
		}
	}
	for i, bad := range badValues() {
		for _, s := range []string{"null", "true", "0", `"a"`, "[]", "[0]", `["a",0]`, "[[]]", "[[0]]", "{}", "<:>"} {
			v := parse(t, s)
			expect("Step", i, s, outcome(Step(bad, v)))
			expect("Step by", i, s, outcome(Step(v, bad)))
			expect("Get", i, s, outcome(Get(bad, v)))
			expect("Get at", i, s, outcome(Get(v, bad)))
			expect("Delete", i, s, outcome(Delete(bad, v)))
			expect("Delete by", i, s, outcome(Delete(v, bad)))
			for _, last := range []string{"null", "[]", "[true]", "[-1]"} {
				w := parse(t, last)
				expect("Set", i, s, outcome(Set(bad, w, v)))
				expect("Set at", i, s, outcome(Set(v, bad, w)))
				expect("Set to", i, s, outcome(Set(v, w, bad)))
			}
		}
	}
}
