package text

import (
	"math"
	"slices"
	"strconv"
	"strings"
	"testing"

	"ndjq/api"
	"ndjq/jsonparse"
	"ndjq/jsonwrite"
	"ndjq/value"
)

// Names of errors in the tables, which are no JSON texts.
const (
	invalid    = "ErrInvalid"
	limit      = "ErrLimit"
	outOfRange = "ErrRange"
	noSyntax   = "ErrSyntax"
	truncated  = "ErrTruncated"
	noNumber   = "ErrNumber"
	tooDeep    = "ErrDepth"
	wrongType  = "ErrType"
	greatest   = "9223372036854775807"
	least      = "-9223372036854775808"
)

func errorName(e api.Errno) string {
	names := map[api.Errno]string{
		api.ErrInvalid: invalid, api.ErrLimit: limit, api.ErrRange: outOfRange, api.ErrSyntax: noSyntax, api.ErrTruncated: truncated,
		api.ErrNumber: noNumber, api.ErrDepth: tooDeep, api.ErrType: wrongType,
	}
	if name, ok := names[e]; ok {
		return name
	}
	return "error " + strconv.Itoa(int(e))
}

// outcome is the text of a result, or the name of an error with which all fields of the value are zero.
func outcome(v api.Value, e api.Errno) string {
	if e == api.OK {
		return jsonwrite.Text(v)
	}
	if v.Kind != 0 || v.Int != 0 || v.Str != "" || len(v.Keys) != 0 || len(v.Elems) != 0 {
		return errorName(e) + " with a value"
	}
	return errorName(e)
}

// valueOf returns the value of a text of the tables.
func valueOf(t *testing.T, s string) api.Value {
	t.Helper()
	v, _, e := jsonparse.Parse(s)
	if e != api.OK {
		t.Fatal("no JSON text:", s)
	}
	return v
}

// brief shows both ends of a text.
func brief(s string) string {
	if len(s) > 80 {
		s = s[:40] + " .. " + s[len(s)-40:]
	}
	return strconv.QuoteToASCII(s)
}

type unary func(v api.Value) (api.Value, api.Errno)

// unaries are the functions of one argument.
func unaries() map[string]unary {
	return map[string]unary{
		"Explode": Explode, "Implode": Implode, "Lower": Lower, "Upper": Upper, "Trim": Trim,
		"ToString": ToString, "ToNumber": ToNumber, "ToJSON": ToJSON, "FromJSON": FromJSON,
	}
}

type binary func(v, s api.Value) (api.Value, api.Errno)

// binaries are the functions of two arguments.
func binaries() map[string]binary {
	return map[string]binary{
		"StartsWith": StartsWith, "EndsWith": EndsWith, "CutPrefix": CutPrefix, "CutSuffix": CutSuffix,
		"Split": Split, "Join": Join, "Indices": Indices,
	}
}

// expect calls the function of one argument with each first text of a pair; the second is the canonical text of the result, or the name of an error.
func expect(t *testing.T, name string, l [][2]string) {
	t.Helper()
	for _, x := range l {
		if got := outcome(unaries()[name](valueOf(t, x[0]))); got != x[1] {
			t.Errorf("%s of %s is %s; expected %s", name, brief(x[0]), brief(got), brief(x[1]))
		}
	}
}

// expectPairs is expect for a function of two arguments.
func expectPairs(t *testing.T, name string, l [][3]string) {
	t.Helper()
	for _, x := range l {
		if got := outcome(binaries()[name](valueOf(t, x[0]), valueOf(t, x[1]))); got != x[2] {
			t.Errorf("%s of %s and %s is %s; expected %s", name, brief(x[0]), brief(x[1]), brief(got), brief(x[2]))
		}
	}
}

func TestExamples(t *testing.T) {
	expectPairs(t, "Indices", [][3]string{{`"aaa"`, `"aa"`, "[0,1]"}})
	expectPairs(t, "Join", [][3]string{{`[1,null,"b"]`, `"-"`, `"1--b"`}})
	expect(t, "ToNumber", [][2]string{{`"-0"`, "0"}, {`"1 "`, noSyntax}})
	expectPairs(t, "CutPrefix", [][3]string{{`"abc"`, `"ab"`, `"c"`}, {"[1]", `"a"`, "[1]"}})
}

// samples are texts of values of all kinds.
func samples() []string {
	return []string{
		"null", "false", "true", least, "-1", "0", "65", greatest, `""`, `"a"`, `"aéb"`, `"1"`, `"[1]"`, "[]", "[null]", "[97,233]", `["a","b"]`, `["a",[1],{}]`, "{}", `{"a":1}`, `{"a":null,"b":[1]}`,
	}
}

// Each function of one argument has the error ErrType for exactly these kinds of arguments.
func TestTypesOfOneArgument(t *testing.T) {
	fits := map[string]string{
		"Explode": "string", "Implode": "array", "Lower": "string", "Upper": "string", "Trim": "string", "ToNumber": "number string", "FromJSON": "string",
		"ToString": "null boolean number string array object", "ToJSON": "null boolean number string array object",
	}
	for name, f := range unaries() {
		for _, s := range samples() {
			v := valueOf(t, s)
			want := strings.Contains(fits[name], value.TypeName(v))
			if name == "Implode" && (s == "[null]" || strings.HasPrefix(s, `["a"`)) {
				want = false
			}
			if got := outcome(f(v)); (got != wrongType) != want {
				t.Errorf("%s of %s is %s", name, s, got)
			}
		}
	}
}

// Each function of two arguments has the error ErrType for exactly these kinds of arguments.
func TestTypesOfTwoArguments(t *testing.T) {
	fits := func(name string, v, s api.Value) bool {
		switch name {
		case "CutPrefix", "CutSuffix":
			return true
		case "Join":
			nested := slices.ContainsFunc(v.Elems, func(elem api.Value) bool { return elem.Kind >= api.Array })
			return v.Kind == api.Array && s.Kind == api.String && !nested
		case "Indices":
			return v.Kind == api.Array || v.Kind == api.String && s.Kind == api.String
		}
		return v.Kind == api.String && s.Kind == api.String
	}
	for name, f := range binaries() {
		for _, first := range samples() {
			for _, second := range samples() {
				v, s := valueOf(t, first), valueOf(t, second)
				if got := outcome(f(v, s)); (got != wrongType) != fits(name, v, s) {
					t.Errorf("%s of %s and %s is %s", name, first, second, got)
				}
			}
		}
	}
}

func TestP8_1Explode(t *testing.T) {
	expect(t, "Explode", [][2]string{
		{`""`, "[]"}, {`"a"`, "[97]"}, {`"ab"`, "[97,98]"}, {`"aéb"`, "[97,233,98]"}, {`"€😀"`, "[8364,128512]"}, {`"\u0000\n\u007f\u0080"`, "[0,10,127,128]"}, {`"e\u0301"`, "[101,769]"},
		{`"\u07ff\u0800"`, "[2047,2048]"}, {`"\ud7ff\ue000\ufffd\uffff"`, "[55295,57344,65533,65535]"}, {`"\ud800\udc00\udbff\udfff"`, "[65536,1114111]"},
		{"null", wrongType}, {"1", wrongType}, {"true", wrongType}, {"[]", wrongType}, {`["a"]`, wrongType}, {"{}", wrongType},
	})
}

func TestP8_1Implode(t *testing.T) {
	expect(t, "Implode", [][2]string{
		{"[]", `""`}, {"[97]", `"a"`}, {"[97,233,98]", `"aéb"`}, {"[8364,128512]", `"€😀"`}, {"[0,10,127,128]", `"\u0000\n` + "\u007f\u0080" + `"`}, {"[2047,2048]", `"` + "\u07ff\u0800" + `"`}, {"[55295,57344,65533]", `"` + "\ud7ff\ue000\ufffd" + `"`}, {"[65535,65536,1114111]", `"` + "\uffff\U00010000\U0010ffff" + `"`},
		{"[-1]", outOfRange}, {"[1114112]", outOfRange}, {"[55296]", outOfRange}, {"[56319]", outOfRange}, {"[56320]", outOfRange}, {"[57343]", outOfRange}, {"[55357,56832]", outOfRange}, {"[97,-97]", outOfRange},
		{"[" + greatest + "]", outOfRange}, {"[" + least + "]", outOfRange}, {"[4294967296]", outOfRange}, {"[4294967393]", outOfRange}, {"[-4294967199]", outOfRange}, {"[2147483648]", outOfRange}, {"[97,9223372036854775745]", outOfRange}, {"[18014398509481984]", outOfRange},
		{"[null]", wrongType}, {"[true]", wrongType}, {"[false]", wrongType}, {`["a"]`, wrongType}, {`["97"]`, wrongType}, {"[[]]", wrongType}, {"[[97]]", wrongType}, {"[{}]", wrongType}, {"[97,null]", wrongType}, {`[97,98,"c"]`, wrongType}, {"[null,97]", wrongType},
		{"null", wrongType}, {"97", wrongType}, {`"a"`, wrongType}, {`""`, wrongType}, {"{}", wrongType}, {`{"a":97}`, wrongType}, {"true", wrongType},
	})
	// An element that is no number comes before one that is no code point.
	expect(t, "Implode", [][2]string{{"[-1,null]", wrongType}, {"[null,-1]", wrongType}, {`[1114112,97,"a"]`, wrongType}, {"[55296,55296,[]]", wrongType}, {"[-1,97]", outOfRange}})
}

func TestP8_1Letters(t *testing.T) {
	expect(t, "Lower", [][2]string{
		{`""`, `""`}, {`"abc"`, `"abc"`}, {`"ABC"`, `"abc"`}, {`"AbZz"`, `"abzz"`}, {`"@AZ["`, `"@az["`}, {`"\u0060az{"`, "\"`az{\""}, {`"A1 É€😀\u0130\u212a"`, `"a1 É€😀` + "\u0130\u212a" + `"`}, {`"ÄÖÜ"`, `"ÄÖÜ"`}, {`"\u00c1\u0141\ufffd"`, `"ÁŁ` + "\ufffd" + `"`}, {`"A\nB"`, `"a\nb"`}, {`"ΑΩАЯＡ"`, `"ΑΩАЯＡ"`},
		{"null", wrongType}, {"1", wrongType}, {`["A"]`, wrongType}, {`{"A":1}`, wrongType}, {"true", wrongType},
	})
	expect(t, "Upper", [][2]string{
		{`""`, `""`}, {`"ABC"`, `"ABC"`}, {`"abc"`, `"ABC"`}, {`"AbZz"`, `"ABZZ"`}, {`"@AZ["`, `"@AZ["`}, {`"\u0060az{"`, "\"`AZ{\""}, {`"a1 é€😀ıßſ"`, `"A1 é€😀ıßſ"`}, {`"äöü"`, `"äöü"`}, {`"\u00e1\u0142\ufffd"`, `"áł` + "\ufffd" + `"`}, {`"a\nb"`, `"A\nB"`}, {`"αωаяａ"`, `"αωаяａ"`},
		{"null", wrongType}, {"1", wrongType}, {`["a"]`, wrongType}, {`{"a":1}`, wrongType}, {"true", wrongType},
	})
}

func TestP8_1Trim(t *testing.T) {
	expect(t, "Trim", [][2]string{
		{`""`, `""`}, {`"a"`, `"a"`}, {`" a"`, `"a"`}, {`"a "`, `"a"`}, {`" a "`, `"a"`}, {`"  a b  "`, `"a b"`}, {`" "`, `""`}, {`"    "`, `""`}, {`"\t\n\r a \r\n\t"`, `"a"`}, {`"\t"`, `""`}, {`"\n"`, `""`}, {`"\r"`, `""`}, {`"a\t\n\r b"`, `"a\t\n\r b"`}, {`" é "`, `"é"`}, {`"\n😀"`, `"😀"`},
		{`"\u000ba\f"`, `"\u000ba\f"`}, {`"\u00a0a\u00a0"`, `"` + "\u00a0a\u00a0" + `"`}, {`"\u0085a\u2003"`, `"` + "\u0085a\u2003" + `"`}, {`"\u0000a\u0000"`, `"\u0000a\u0000"`}, {`" \u0000 "`, `"\u0000"`}, {`" \f "`, `"\f"`}, {`"\u0008a\u001f"`, `"\ba\u001f"`}, {`"\ufeff a"`, `"` + "\ufeff a" + `"`},
		{"null", wrongType}, {"1", wrongType}, {`[" a"]`, wrongType}, {`{" a":1}`, wrongType}, {"false", wrongType},
	})
}

// Of all code points below 0x3000, Lower and Upper change ASCII letters and Trim removes blanks.
func TestP8_1CodePoints(t *testing.T) {
	for r := range rune(0x3000) {
		s := string(r)
		lower, upper, trimmed := s, s, "a"+s+"a"
		switch {
		case 'A' <= r && r <= 'Z':
			lower = string(r + 32)
		case 'a' <= r && r <= 'z':
			upper = string(r - 32)
		}
		if r >= 0xd800 && r <= 0xdfff {
			continue
		}
		v := str(s + "a" + s)
		if r != ' ' && r != '\t' && r != '\n' && r != '\r' {
			trimmed = s + "a" + s
		} else {
			trimmed = "a"
		}
		for name, want := range map[string]string{"Lower": lower + "a" + lower, "Upper": upper + "A" + upper, "Trim": trimmed} {
			if got := outcome(unaries()[name](v)); got != jsonwrite.Quote(want) {
				t.Errorf("%s of %q is %s", name, v.Str, got)
			}
		}
	}
}

func TestP8_2StartsWith(t *testing.T) {
	expectPairs(t, "StartsWith", [][3]string{
		{`"abc"`, `"ab"`, "true"}, {`"abc"`, `"a"`, "true"}, {`"abc"`, `"abc"`, "true"}, {`"abc"`, `""`, "true"}, {`""`, `""`, "true"}, {`"abc"`, `"b"`, "false"}, {`"abc"`, `"bc"`, "false"}, {`"abc"`, `"abcd"`, "false"}, {`""`, `"a"`, "false"}, {`"abc"`, `"A"`, "false"}, {`"éa"`, `"é"`, "true"}, {`"éa"`, `"è"`, "false"}, {`"éa"`, `"e"`, "false"}, {`" a"`, `"a"`, "false"},
		{`"a"`, "null", wrongType}, {"null", `"a"`, wrongType}, {`"a"`, `["a"]`, wrongType}, {`["a"]`, `"a"`, wrongType}, {`["a"]`, `["a"]`, wrongType}, {"12", "1", wrongType}, {`"12"`, "1", wrongType}, {"null", "null", wrongType},
	})
	expectPairs(t, "EndsWith", [][3]string{
		{`"abc"`, `"bc"`, "true"}, {`"abc"`, `"c"`, "true"}, {`"abc"`, `"abc"`, "true"}, {`"abc"`, `""`, "true"}, {`""`, `""`, "true"}, {`"abc"`, `"b"`, "false"}, {`"abc"`, `"ab"`, "false"}, {`"abc"`, `"0abc"`, "false"}, {`""`, `"a"`, "false"}, {`"abc"`, `"C"`, "false"}, {`"aé"`, `"é"`, "true"}, {`"aé"`, `"è"`, "false"}, {`"aé"`, `"\u0301"`, "false"}, {`"a "`, `"a"`, "false"},
		{`"a"`, "null", wrongType}, {"null", `"a"`, wrongType}, {`"a"`, `["a"]`, wrongType}, {`["a"]`, `"a"`, wrongType}, {`["a"]`, `["a"]`, wrongType}, {"12", "2", wrongType}, {`"12"`, "2", wrongType}, {"null", "null", wrongType},
	})
}

func TestP8_2Cut(t *testing.T) {
	expectPairs(t, "CutPrefix", [][3]string{
		{`"abc"`, `"ab"`, `"c"`}, {`"abc"`, `"abc"`, `""`}, {`"abc"`, `""`, `"abc"`}, {`""`, `""`, `""`}, {`""`, `"a"`, `""`}, {`"abc"`, `"b"`, `"abc"`}, {`"abc"`, `"bc"`, `"abc"`}, {`"abc"`, `"abcd"`, `"abc"`}, {`"aab"`, `"a"`, `"ab"`}, {`"abab"`, `"ab"`, `"ab"`}, {`"aaa"`, `"aa"`, `"a"`}, {`"éa"`, `"é"`, `"a"`}, {`"éa"`, `"e"`, `"éa"`},
	})
	expectPairs(t, "CutSuffix", [][3]string{
		{`"abc"`, `"bc"`, `"a"`}, {`"abc"`, `"abc"`, `""`}, {`"abc"`, `""`, `"abc"`}, {`""`, `""`, `""`}, {`""`, `"a"`, `""`}, {`"abc"`, `"b"`, `"abc"`}, {`"abc"`, `"ab"`, `"abc"`}, {`"abc"`, `"0abc"`, `"abc"`}, {`"abb"`, `"b"`, `"ab"`}, {`"abab"`, `"ab"`, `"ab"`}, {`"aaa"`, `"aa"`, `"a"`}, {`"aé"`, `"é"`, `"a"`}, {`"ae\u0301"`, `"e"`, `"ae` + "\u0301" + `"`},
	})
	for _, v := range samples() {
		for _, s := range samples() {
			if v[0] != '"' || s[0] != '"' {
				expectPairs(t, "CutPrefix", [][3]string{{v, s, v}})
				expectPairs(t, "CutSuffix", [][3]string{{v, s, v}})
			}
		}
	}
}

func TestP8_3Split(t *testing.T) {
	expectPairs(t, "Split", [][3]string{
		{`"a,b"`, `","`, `["a","b"]`}, {`"ab"`, `""`, `["a","b"]`}, {`"a"`, `","`, `["a"]`}, {`""`, `","`, "[]"}, {`""`, `""`, "[]"}, {`","`, `","`, `["",""]`}, {`",a,,b,"`, `","`, `["","a","","b",""]`}, {`"aaa"`, `"aa"`, `["","a"]`}, {`"aéb"`, `""`, `["a","é","b"]`}, {`"aéb"`, `"é"`, `["a","b"]`}, {`"ab"`, `"ab"`, `["",""]`}, {`"ab"`, `"abc"`, `["ab"]`}, {`"a b"`, `" "`, `["a","b"]`}, {`"a.b"`, `"."`, `["a","b"]`}, {`"a\nb"`, `"\n"`, `["a","b"]`},
		{`"a"`, "null", wrongType}, {"null", `"a"`, wrongType}, {`["a"]`, `"a"`, wrongType}, {`"1"`, "1", wrongType}, {"1", "1", wrongType}, {"null", "null", wrongType},
	})
}

func TestP8_3Join(t *testing.T) {
	expectPairs(t, "Join", [][3]string{
		{"[]", `","`, `""`}, {"[]", `""`, `""`}, {`["a"]`, `","`, `"a"`}, {`["a","b"]`, `","`, `"a,b"`}, {`["a","b","c"]`, `", "`, `"a, b, c"`}, {`["a","b"]`, `""`, `"ab"`}, {`["",""]`, `","`, `","`}, {`[""]`, `","`, `""`}, {`["é","😀"]`, `"€"`, `"é€😀"`},
		{"[null]", `","`, `""`}, {"[null,null]", `","`, `","`}, {`[null,"a",null]`, `"-"`, `"-a-"`}, {"[1,-2,0]", `"+"`, `"1+-2+0"`}, {"[" + greatest + "," + least + "]", `" "`, `"` + greatest + " " + least + `"`}, {"[true,false]", `"|"`, `"true|false"`}, {`[1,null,"b",true,false,"null"]`, `","`, `"1,,b,true,false,null"`}, {`["\"","\n"]`, `"\\"`, `"\"\\\n"`}, {`["a,b","c"]`, `","`, `"a,b,c"`},
		{"[[]]", `","`, wrongType}, {"[{}]", `","`, wrongType}, {`["a",[]]`, `","`, wrongType}, {`["a",["b"]]`, `","`, wrongType}, {`[{"a":1},"b"]`, `","`, wrongType}, {`["a","b",{}]`, `""`, wrongType},
		{"null", `","`, wrongType}, {`"ab"`, `","`, wrongType}, {"{}", `","`, wrongType}, {`{"a":"b"}`, `","`, wrongType}, {`["a"]`, "null", wrongType}, {"[]", "null", wrongType}, {"[]", "1", wrongType}, {`["a"]`, "1", wrongType}, {`["a","b"]`, `[","]`, wrongType}, {"1", "1", wrongType},
	})
}

func TestP8_4OfStrings(t *testing.T) {
	expectPairs(t, "Indices", [][3]string{
		{`"abc"`, `"a"`, "[0]"}, {`"abc"`, `"b"`, "[1]"}, {`"abc"`, `"c"`, "[2]"}, {`"abc"`, `"bc"`, "[1]"}, {`"abc"`, `"abc"`, "[0]"}, {`"abc"`, `"d"`, "[]"}, {`"abc"`, `"abcd"`, "[]"}, {`"abc"`, `"ac"`, "[]"}, {`"abc"`, `"A"`, "[]"}, {`""`, `"a"`, "[]"}, {`"abc"`, `""`, "null"}, {`""`, `""`, "null"},
		{`"a,b, cd,e"`, `","`, "[1,3,7]"}, {`"aaaa"`, `"a"`, "[0,1,2,3]"}, {`"aaaa"`, `"aa"`, "[0,1,2]"}, {`"aaaa"`, `"aaaa"`, "[0]"}, {`"ababa"`, `"aba"`, "[0,2]"}, {`"aabaabaa"`, `"aabaa"`, "[0,3]"}, {`"abcabc"`, `"ca"`, "[2]"},
		{`"aéb"`, `"b"`, "[2]"}, {`"éé"`, `"é"`, "[0,1]"}, {`"é€😀é"`, `"é"`, "[0,3]"}, {`"é€😀é"`, `"😀é"`, "[2]"}, {`"ééé"`, `"éé"`, "[0,1]"}, {`"éè"`, `"è"`, "[1]"}, {`"e\u0301e"`, `"e"`, "[0,2]"}, {`"\u0000a\u0000"`, `"\u0000"`, "[0,2]"},
	})
}

func TestP8_4OfArrays(t *testing.T) {
	expectPairs(t, "Indices", [][3]string{
		{"[1,2,3]", "[1]", "[0]"}, {"[1,2,3]", "[2,3]", "[1]"}, {"[1,2,3]", "[1,2,3]", "[0]"}, {"[1,2,3]", "[1,3]", "[]"}, {"[1,2,3]", "[1,2,3,4]", "[]"}, {"[1,2,3]", "[4]", "[]"}, {"[]", "[1]", "[]"}, {"[1,2,3]", "[]", "null"}, {"[]", "[]", "null"}, {"[[]]", "[]", "null"},
		{"[1,1,1]", "[1,1]", "[0,1]"}, {"[1,2,1,2,1]", "[1,2,1]", "[0,2]"}, {"[0,1,0,1]", "[1]", "[1,3]"}, {"[[1],2,[1]]", "[[1]]", "[0,2]"}, {"[[1],2,[1]]", "[1]", "[]"}, {"[1,[1]]", "[[1]]", "[1]"}, {`[{"a":1},{"a":1}]`, `[{"a":1}]`, "[0,1]"}, {"[null,null]", "[null]", "[0,1]"}, {`["ab"]`, `["a"]`, "[]"}, {"[[]]", "[[]]", "[0]"},
		{`[1,"1"]`, `["1"]`, "[1]"}, {`[null,"null"]`, `["null"]`, "[1]"}, {`[true,"true",false]`, "[true]", "[0]"}, {`["[1]",[1]]`, "[[1]]", "[1]"}, {`[[1,2]]`, `[[1],[2]]`, "[]"}, {`["a,b"]`, `["a","b"]`, "[]"},
	})
}

func TestP8_4OfElements(t *testing.T) {
	expectPairs(t, "Indices", [][3]string{
		{"[1,2,1]", "1", "[0,2]"}, {"[1,2,1]", "2", "[1]"}, {"[1,2,1]", "3", "[]"}, {"[]", "1", "[]"}, {"[]", "null", "[]"}, {"[null,1,null]", "null", "[0,2]"}, {"[false,null,false]", "false", "[0,2]"}, {"[false,true]", "true", "[1]"}, {`["a","b","a"]`, `"a"`, "[0,2]"}, {`["ab","b"]`, `"b"`, "[1]"}, {`["",null]`, `""`, "[0]"}, {"[]", `""`, "[]"}, {`["a"]`, `""`, "[]"},
		{`[{},{"a":1},{}]`, "{}", "[0,2]"}, {`[{},{"a":1},{}]`, `{"a":1}`, "[1]"}, {`[{"a":1,"b":[2]}]`, `{"b":[2],"a":1}`, "[0]"}, {"[]", "{}", "[]"}, {`[1,"1",[1]]`, "1", "[0]"}, {`[1,"1",[1]]`, `"1"`, "[1]"}, {`["null",null]`, "null", "[1]"}, {`["{}",{}]`, "{}", "[1]"}, {"[" + greatest + "," + least + ",-1]", least, "[1]"},
	})
	for _, v := range samples() {
		for _, s := range samples() {
			if v[0] != '[' && (v[0] != '"' || s[0] != '"') {
				expectPairs(t, "Indices", [][3]string{{v, s, wrongType}})
			}
		}
	}
}

func TestP8_5ToString(t *testing.T) {
	for _, s := range samples() {
		quoted := jsonwrite.Quote(s)
		expect(t, "ToJSON", [][2]string{{s, quoted}})
		if s[0] == '"' {
			quoted = s
		}
		expect(t, "ToString", [][2]string{{s, quoted}})
	}
	expect(t, "ToString", [][2]string{{`"a\n\"\u0001"`, `"a\n\"\u0001"`}, {`{"b":[1,{}],"a":"é\n"}`, `"{\"a\":\"é\\n\",\"b\":[1,{}]}"`}, {"-0", `"0"`}, {" [ 1 , null ] ", `"[1,null]"`}, {`["\u0001"]`, `"[\"\\u0001\"]"`}})
	expect(t, "ToJSON", [][2]string{{`"a\n\"\u0001"`, `"\"a\\n\\\"\\u0001\""`}, {`{"b":[1,{}],"a":"é\n"}`, `"{\"a\":\"é\\n\",\"b\":[1,{}]}"`}, {"-0", `"0"`}, {" [ 1 , null ] ", `"[1,null]"`}, {`""`, `"\"\""`}, {`"é"`, `"\"é\""`}})
}

func TestP8_5ToNumber(t *testing.T) {
	for _, s := range []string{"0", "1", "-1", "12345678901", greatest, least, "10"} {
		expect(t, "ToNumber", [][2]string{{s, s}, {`"` + s + `"`, s}})
	}
	expect(t, "ToNumber", [][2]string{
		{`"-0"`, "0"}, {`"1 "`, noSyntax}, {`" 1"`, noSyntax}, {`" 1 "`, noSyntax}, {`"1\n"`, noSyntax}, {`"\t1"`, noSyntax}, {`""`, noSyntax}, {`" "`, noSyntax}, {`"1 2"`, noSyntax}, {`"1,"`, noSyntax}, {`"1a"`, noSyntax}, {`"1-"`, noSyntax}, {`"1-1"`, noSyntax}, {`"0x1"`, noSyntax}, {`"1_000"`, noSyntax}, {`"1é"`, noSyntax}, {`"1\u0000"`, noSyntax},
		{`"+1"`, noSyntax}, {`"-"`, noSyntax}, {`"--1"`, noSyntax}, {`"- 1"`, noSyntax}, {`"01"`, noSyntax}, {`"-01"`, noSyntax}, {`"00"`, noSyntax}, {`".5"`, noSyntax}, {`"١"`, noSyntax}, {`"é"`, noSyntax}, {`"a"`, noSyntax}, {`"nul"`, noSyntax}, {`"Infinity"`, noSyntax},
		{`"null"`, noSyntax}, {`"true"`, noSyntax}, {`"false"`, noSyntax}, {`"["`, noSyntax}, {`"[1]"`, noSyntax}, {`"{}"`, noSyntax}, {`","`, noSyntax}, {`":"`, noSyntax}, {`"\"1\""`, noSyntax}, {`"\"\""`, noSyntax},
		{`"1.5"`, noNumber}, {`"1."`, noNumber}, {`"1e3"`, noNumber}, {`"1E3"`, noNumber}, {`"-1.0"`, noNumber}, {`" 1.5"`, noNumber}, {`"1.5x"`, noNumber}, {`"9223372036854775808"`, noNumber}, {`"-9223372036854775809"`, noNumber}, {`"9223372036854775808 "`, noNumber}, {`"100000000000000000000"`, noNumber},
		{`"\"1"`, truncated}, {`"\"\\"`, truncated}, {`" \"\\u12"`, truncated}, {`"\"\\q\""`, noSyntax}, {`"\"\n\""`, noSyntax},
		{"null", wrongType}, {"true", wrongType}, {"false", wrongType}, {"[]", wrongType}, {"[1]", wrongType}, {"{}", wrongType},
	})
}

func TestP8_5FromJSON(t *testing.T) {
	for _, s := range samples() {
		expect(t, "FromJSON", [][2]string{{jsonwrite.Quote(s), s}, {jsonwrite.Quote(" " + s + "\n"), s}})
	}
	expect(t, "FromJSON", [][2]string{
		{`" {\"b\": 1, \"a\": [true], \"b\": null} "`, `{"a":[true],"b":null}`}, {`"\"\\u00e9\""`, `"é"`}, {`"\"\\ud83d\\ude00\""`, `"😀"`}, {`"-0"`, "0"}, {`"\"\""`, `""`},
		{`""`, truncated}, {`" "`, truncated}, {`"[1"`, truncated}, {`"[1,"`, truncated}, {`"\"a"`, truncated}, {`"{\"a\":"`, truncated}, {`"[1,]"`, noSyntax}, {`"1 2"`, noSyntax}, {`"a"`, noSyntax}, {`"nul"`, noSyntax}, {`"{a:1}"`, noSyntax}, {`"]"`, noSyntax}, {`"01"`, noSyntax}, {`"\u0000"`, noSyntax}, {`"[1,2]]"`, noSyntax}, {`"\"\\ude00\""`, noSyntax}, {`"\"\n\""`, noSyntax},
		{`"1.5"`, noNumber}, {`"[1e3]"`, noNumber}, {`"9223372036854775808"`, noNumber}, {`"[1.5"`, noNumber}, {`"[1,], 1.5"`, noSyntax},
		{"null", wrongType}, {"1", wrongType}, {"true", wrongType}, {"[]", wrongType}, {`["1"]`, wrongType}, {"{}", wrongType},
	})
}

// badValues are values that are not valid.
func badValues() []api.Value {
	cycle := api.Value{Kind: api.Array, Elems: make([]api.Value, 2)}
	cycle.Elems[0], cycle.Elems[1] = cycle, cycle
	wide := num(1)
	for range 60 {
		wide = arr(many(wide, api.MaxElems)...)
	}
	bad := []api.Value{
		{Kind: -1}, {Kind: api.Object + 1}, {Kind: math.MinInt}, {Int: 1}, {Str: "a"}, {Kind: api.True, Str: "a"}, {Kind: api.Number, Str: "a"}, {Kind: api.Number, Elems: make([]api.Value, 1)},
		{Kind: api.String, Int: 1}, {Kind: api.String, Str: "a", Keys: []string{"a"}}, {Kind: api.String, Elems: make([]api.Value, 1)}, str("\xff"), str("a\xed\xa0\x80"), str("\xc3"), {Kind: api.Array, Keys: []string{"a"}}, {Kind: api.Array, Str: "a"}, {Kind: api.Object, Keys: []string{"a"}},
		{Kind: api.Object, Elems: make([]api.Value, 1)}, {Kind: api.Object, Int: 1}, obj([]string{"b", "a"}, num(1), num(2)), obj([]string{"a", "a"}, num(1), num(1)), obj([]string{"\x80"}, num(1)),
		str(strings.Repeat("x", api.MaxString+1)), arr(many(num(0), api.MaxElems+1)...), nested(num(1), api.MaxDepth+1), cycle, wide,
	}
	for _, v := range slices.Clone(bad) {
		bad = append(bad, arr(num(97), v), obj([]string{"a", "b"}, v, num(1)))
	}
	return bad
}

// An argument that is not valid comes before all other errors.
func TestNotValid(t *testing.T) {
	for i, bad := range badValues() {
		for name, f := range unaries() {
			if got := outcome(f(bad)); got != invalid {
				t.Errorf("%s of bad value %d is %s", name, i, got)
			}
		}
		for name, f := range binaries() {
			for _, s := range samples() {
				v := valueOf(t, s)
				if first, last := outcome(f(bad, v)), outcome(f(v, bad)); first != invalid || last != invalid {
					t.Errorf("%s of bad value %d and %s is %s, the other way %s", name, i, s, first, last)
				}
			}
			if got := outcome(f(bad, bad)); got != invalid {
				t.Errorf("%s of bad value %d twice is %s", name, i, got)
			}
		}
	}
}
