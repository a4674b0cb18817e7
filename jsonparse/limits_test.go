package jsonparse

import (
	"strconv"
	"strings"
	"testing"

	"ndjq/api"
	"ndjq/value"
)

// beginnings end where a token is needed. Behind some of them, a limit forbids every further value.
func beginnings() []string {
	return []string{
		"", "[", "[1", "[1,", "[1,2", "[[", "[[]", "[[],", "[{}", "{", "{\"a\"", "{\"a\":", "{\"a\":1", "{\"a\":1,", "{\"a\":1,\"b\"", "{\"a\":1,\"a\":",
		"{\"a\":[", "{\"a\":[1", "{\"a\":[]", "[{", "[{\"a\":", "[{\"a\":{}", "[1,[2,{\"b\":3,\"a\":[4", strings.Repeat("[", api.MaxDepth),
		strings.Repeat("{\"a\":", api.MaxDepth), "[" + elements("1", api.MaxElems), "[" + elements("1", api.MaxElems) + ",", "{" + members(api.MaxElems) + ",",
		"[" + elements("\"\"", api.MaxElems) + ",", fullNodes(), fullNodes() + ",", fullBytes(), fullBytes() + ",",
	}
}

// elements returns n elements with commas between them.
func elements(s string, n int) string {
	return strings.TrimSuffix(strings.Repeat(s+",", n), ",")
}

// members returns n members with different keys.
func members(n int) string {
	var b strings.Builder
	for i := range n {
		b.WriteString(",\"k" + strconv.Itoa(i) + "\":1")
	}
	return b.String()[min(1, n):]
}

// rows returns n values: one that begins as given, and in it arrays of the elements.
func rows(beginning, elem string, n int) string {
	size := api.MaxElems
	s := beginning
	for n--; n > size; n -= size {
		s += "[" + elements(elem, size-1) + "]," + strings.Trim(beginning, "[{")
	}
	return s + "[" + elements(elem, n-1) + "]"
}

// fullNodes begins an array with which as many values have begun as are possible.
func fullNodes() string {
	return rows("[", "1", api.MaxNodes)
}

// fullBytes begins an array that contains as many bytes as are possible.
func fullBytes() string {
	return "[" + elements(`"`+strings.Repeat("x", api.MaxString)+`"`, api.MaxBytes/api.MaxString)
}

// closed closes what is open in a text whose strings contain no signs.
func closed(s string) string {
	return s + closing(s)
}

// expectDecoded expects the value of a text that is valid, and that it is a valid value.
func expectDecoded(t *testing.T, s string) {
	t.Helper()
	expectParse(t, s, result{decoded(t, s), len(s), api.OK})
	expectPrefix(t, "[[ \""+s+",", 4, result{decoded(t, s), len(s) + 4, api.OK})
	if !value.Valid(parse(s).v) {
		t.Errorf("Parse(%s) is not valid", brief(s))
	}
}

// expectLimit expects an error at the token behind before, whatever follows it.
func expectLimit(t *testing.T, before, token string, e api.Errno) {
	t.Helper()
	expectPrefix(t, "[1,"+before+" \n"+token, 3, result{null, len(before) + 5, e})
	for _, behind := range []string{"", ",", "]", ":1", " @", " \"", " 01"} {
		expectParse(t, before+token+behind, result{null, len(before), e})
	}
}

// nestings returns texts that open n values, each of them in the one before it.
func nestings(n int) []string {
	mixed := ""
	for i := range n {
		mixed += []string{"[", `{"a":`, "[1, ", `{"a":2,"b":`}[i%4]
	}
	return []string{strings.Repeat("[", n), strings.Repeat(`{"k":`, n), strings.Repeat("[ 1,", n), mixed}
}

func TestP4_2Depth(t *testing.T) {
	for _, before := range nestings(api.MaxDepth) {
		for _, inner := range []string{"1", "null", `"a"`, "-2 "} {
			s := closed(before + inner)
			expectDecoded(t, s)
			if depth := value.Depth(parse(s).v); depth != api.MaxDepth {
				t.Errorf("depth of %s: %d", brief(s), depth)
			}
		}
		expectLimit(t, before, "[", api.ErrDepth)
		expectLimit(t, before, "{", api.ErrDepth)
		expectLimit(t, before, "[[", api.ErrDepth)
		expectError(t, before+"1 [", len(before)+2, api.ErrSyntax)
		expectError(t, before+",[", len(before), api.ErrSyntax)
	}
	for _, before := range nestings(api.MaxDepth - 1) {
		for _, inner := range []string{"[]", "{}", "[1]", `{"a":1}`} {
			expectDecoded(t, closed(before+inner))
		}
	}
}

// Only arrays and objects that are still open count for the depth.
func TestP4_2DepthOfNeighbours(t *testing.T) {
	for _, before := range nestings(api.MaxDepth - 1) {
		deep := closed(before + "1")
		for _, s := range []string{
			"[" + elements("[]", 100) + "]", "[" + elements("{}", 100) + "]", "[" + elements("[[]]", 100) + "]",
			"[" + elements(deep, 20) + "]", `{"a":` + deep + `,"b":` + deep + "}",
		} {
			expectDecoded(t, s)
		}
		expectLimit(t, "["+elements(deep, 20)+","+before, "[", api.ErrDepth)
		expectLimit(t, `{"a":`+deep+`,"b":`+before, "{", api.ErrDepth)
	}
}

// For one token, ErrSyntax comes before ErrDepth, and ErrDepth before ErrLimit.
func TestP4_2DepthBeforeLimit(t *testing.T) {
	manyElements := strings.Repeat("[", api.MaxDepth) + elements("1", api.MaxElems) + ","
	manyNodes := rows("[", "1", api.MaxNodes-api.MaxDepth+1) + "," + strings.Repeat("[", api.MaxDepth-1)
	for _, before := range []string{manyElements, manyNodes} {
		expectLimit(t, before, "1", api.ErrLimit)
		expectLimit(t, before, `"a"`, api.ErrLimit)
		expectLimit(t, before, "[", api.ErrDepth)
		expectLimit(t, before, "{", api.ErrDepth)
		expectLimit(t, before, ",", api.ErrSyntax)
		expectLimit(t, before, ":", api.ErrSyntax)
	}
}

// valueTokens are those with which values begin.
func valueTokens() []string {
	return []string{"1", "-0", "null", "false", "true", `""`, `"a"`, "[", "[]", "[1", "{", "{}", `{"a"`}
}

func TestP4_2Nodes(t *testing.T) {
	for _, full := range []string{fullNodes(), rows("[", `""`, api.MaxNodes), rows("[", "[]", api.MaxNodes)} {
		expectDecoded(t, full+"]")
		if nodes := value.Nodes(parse(full + "]").v); nodes != api.MaxNodes {
			t.Errorf("nodes of %s: %d", brief(full), nodes)
		}
		for _, token := range valueTokens() {
			expectLimit(t, full+",", token, api.ErrLimit)
		}
		expectError(t, full+",]", len(full)+1, api.ErrSyntax)
		expectError(t, full+" 1", len(full)+1, api.ErrSyntax)
		expectError(t, full+":", len(full), api.ErrSyntax)
		expectParse(t, full+"]1", result{null, len(full) + 1, api.ErrSyntax})
	}
	whole := fullNodes() + "]"
	expectPrefix(t, whole+whole, len(whole), result{decoded(t, whole), 2 * len(whole), api.OK})
}

// Values count also if a later member replaces them. Keys are no values.
func TestP4_2NodesOfObjects(t *testing.T) {
	for _, full := range []string{
		rows(`{"k":`, "1", api.MaxNodes), rows(`{"k":`, "1", api.MaxNodes-1) + `,"k":"v"`, rows("[", "1", api.MaxNodes-1) + ",{", rows("[", "1", api.MaxNodes-3) + `,{"a":1,"a":2`,
	} {
		expectDecoded(t, closed(full))
		comma := ","
		if strings.HasSuffix(full, "{") {
			comma = ""
		}
		before := full + comma + `"k" : `
		for _, token := range valueTokens() {
			expectLimit(t, before, token, api.ErrLimit)
		}
		expectError(t, before+"}", len(before), api.ErrSyntax)
		expectError(t, before, len(before), api.ErrTruncated)
		expectError(t, strings.TrimSuffix(before, ": "), len(before)-2, api.ErrTruncated)
	}
	row := "{" + members(api.MaxElems-1) + "}"
	objects := "[" + elements(row, 3) + ",{" + members(api.MaxElems-2) + "}"
	expectDecoded(t, objects+"]")
	expectLimit(t, objects+",", "{", api.ErrLimit)
}

// fullStrings returns beginnings of arrays and objects whose strings have MaxBytes bytes.
func fullStrings() []string {
	long := `"` + strings.Repeat("x", api.MaxString) + `"`
	count := api.MaxBytes / api.MaxString
	escapes := `"` + strings.Repeat(`\n`, api.MaxString) + `"`
	wide := `"` + strings.Repeat("é", api.MaxString/2) + `"`
	return []string{
		fullBytes(), "[" + elements(escapes, count), "[" + elements(wide, count), "[" + elements("["+long+"]", count), "[" + elements("{"+long+":1}", count),
		"[{" + elements(long+":"+long, count/2) + "}",
		"[" + elements(`"abcd"`, 500) + "," + elements(`["efgh",{"ijkl":"mnop"}]`, 300) + "," + elements(`["`+strings.Repeat("x", 1873)+`"]`, 32),
	}
}

func TestP4_2Bytes(t *testing.T) {
	for _, full := range fullStrings() {
		for _, behind := range []string{"]", `,""]`, ",1]", ",null,[{}]]", `,{"":""}]`, `,[[""]]]`} {
			expectDecoded(t, full+behind)
		}
		for _, token := range []string{`"a"`, `"\u0000"`, `"é"`} {
			expectLimit(t, full+",", token, api.ErrLimit)
			expectLimit(t, full+`,"",[`, token, api.ErrLimit)
			expectLimit(t, full+",{", token, api.ErrLimit)
			expectLimit(t, full+`,{"":1,`, token, api.ErrLimit)
			expectLimit(t, full+`,{"":[],"":`, token, api.ErrLimit)
			expectError(t, full+" "+token, len(full)+1, api.ErrSyntax)
			expectError(t, full+":"+token, len(full), api.ErrSyntax)
			expectError(t, full+`,{""`+token, len(full)+4, api.ErrSyntax)
			expectParse(t, full+"]"+token, result{null, len(full) + 1, api.ErrSyntax})
		}
	}
	whole := fullBytes() + "]"
	expectPrefix(t, whole+whole, len(whole), result{decoded(t, whole), 2 * len(whole), api.OK})
}

// A string counts with its own bytes: it is the one with which the bytes become too many that fails.
func TestP4_2BytesOfLast(t *testing.T) {
	before := strings.TrimSuffix(fullBytes(), `xx"`) + `",`
	for _, s := range []string{`"a"`, `"ab"`, `"é"`, `"\n\t"`, `"","a","","b"`, `{"a":"b"}`, `{"a":1,"a":2}`} {
		expectDecoded(t, before+s+"]")
	}
	for _, s := range []string{`"abc"`, `"€"`, `"aé"`, `"\ud83d\ude00"`} {
		expectLimit(t, before, s, api.ErrLimit)
		expectLimit(t, before+"{", s, api.ErrLimit)
	}
	expectLimit(t, before+`"ab",`, `"c"`, api.ErrLimit)
	expectLimit(t, before+`{"a":"b","":`, `"c"`, api.ErrLimit)
	expectLimit(t, before+`{"a":"b",`, `"a"`, api.ErrLimit)
}

func TestP4_2Elements(t *testing.T) {
	for _, elem := range []string{"1", `"ab"`, "[]", "[1,2]", `{"a":1,"b":2}`} {
		for _, before := range []string{"[", `{"a":[],"b":[`} {
			many := before + elements(elem, api.MaxElems)
			expectDecoded(t, closed(many))
			for _, token := range valueTokens() {
				expectLimit(t, many+",", token, api.ErrLimit)
			}
			for _, sign := range []string{"]", "}", ",", ":"} {
				expectError(t, many+","+sign, len(many)+1, api.ErrSyntax)
			}
			expectError(t, many+" 1", len(many)+1, api.ErrSyntax)
		}
	}
}

// Each array and object counts its own elements only.
func TestP4_2ElementsOfNeighbours(t *testing.T) {
	half := api.MaxElems - 24
	for _, s := range []string{
		"[" + elements("1", half) + ",[" + elements("1", half) + "]," + elements("2", 23) + "]",
		"[" + elements("1", half) + ",{" + members(half) + "}," + elements("2", 23) + "]",
		"{" + members(half) + `,"a":[` + elements("1", half) + `],"b":{` + members(half) + "}}",
		"[[" + elements("1", half) + "],[" + elements("2", half) + "]]",
	} {
		expectDecoded(t, s)
	}
}

// Members count also if they replace one, or are replaced.
func TestP4_2Members(t *testing.T) {
	for _, l := range []string{members(api.MaxElems), elements(`"k":[1]`, api.MaxElems), elements(`"":{}`, api.MaxElems), elements(`"a":1,"b":"c"`, api.MaxElems/2)} {
		for _, before := range []string{"{", `[{},{`, `{"a":{"b":1},"b":{`} {
			many := before + l
			expectDecoded(t, closed(many))
			for _, key := range []string{`"a"`, `""`, `"k"`, `"k0"`, `"new" 1`, `"new":[`} {
				expectLimit(t, many+",", key, api.ErrLimit)
			}
			for _, token := range []string{"1", "null", "[", "]", "{", "}", ",", ":"} {
				expectError(t, many+","+token, len(many)+1, api.ErrSyntax)
			}
			expectError(t, many+` "a"`, len(many)+1, api.ErrSyntax)
		}
	}
}

// The first error from the left counts, be it one of a limit or not.
func TestP4_2FirstFromTheLeft(t *testing.T) {
	bytes, nodes, deep := fullBytes(), fullNodes(), strings.Repeat("[", api.MaxDepth)
	many := "[" + elements("1", api.MaxElems)
	for _, x := range []struct {
		s  string
		at int
		e  api.Errno
	}{
		{bytes + `,"a",` + deep, len(bytes) + 1, api.ErrLimit}, {bytes + "," + deep + `["a"`, len(bytes) + 32, api.ErrDepth},
		{bytes + `,],"a"`, len(bytes) + 1, api.ErrSyntax}, {bytes + `,01,"a"`, len(bytes) + 2, api.ErrSyntax}, {bytes + `,"a",01`, len(bytes) + 1, api.ErrLimit},
		{nodes + `,1,1.5`, len(nodes) + 1, api.ErrLimit}, {nodes + `,1.5,1`, len(nodes) + 1, api.ErrNumber}, {nodes + ` 1,1.5`, len(nodes) + 1, api.ErrSyntax},
		{many + `,1 "`, len(many) + 1, api.ErrLimit}, {many + "]1" + deep + "[", len(many) + 1, api.ErrSyntax},
		{deep + "[,", 32, api.ErrDepth}, {"[," + deep, 1, api.ErrSyntax}, {deep[1:] + ",[[", 31, api.ErrSyntax}, {deep + "1,@[", 34, api.ErrSyntax}, {deep + "[@", 32, api.ErrDepth},
	} {
		expectParse(t, x.s, result{null, x.at, x.e})
	}
}
