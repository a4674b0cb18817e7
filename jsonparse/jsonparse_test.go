package jsonparse

import (
	"encoding/json"
	"math"
	"math/rand"
	"regexp"
	"slices"
	"sort"
	"strconv"
	"strings"
	"testing"

	"ndjq/api"
	"ndjq/jsonlex"
)

// The values of the tests are literals, so that they do not lean on package value.
var (
	null  = api.Value{}
	no    = api.Value{Kind: api.False}
	yes   = api.Value{Kind: api.True}
	empty = api.Value{Kind: api.Array}
	bare  = api.Value{Kind: api.Object}
)

func num(n int64) api.Value {
	return api.Value{Kind: api.Number, Int: n}
}

func str(s string) api.Value {
	return api.Value{Kind: api.String, Str: s}
}

func arr(l ...api.Value) api.Value {
	return api.Value{Kind: api.Array, Elems: l}
}

// obj takes the keys as one text of words.
func obj(keys string, l ...api.Value) api.Value {
	return api.Value{Kind: api.Object, Keys: strings.Fields(keys), Elems: l}
}

// identical compares all fields. A nil slice and an empty one are equivalent.
func identical(a, b api.Value) bool {
	if a.Kind != b.Kind || a.Int != b.Int || a.Str != b.Str {
		return false
	}
	return slices.Equal(a.Keys, b.Keys) && slices.EqualFunc(a.Elems, b.Elems, identical)
}

// brief shows both ends of a text.
func brief(s string) string {
	if len(s) > 80 {
		s = s[:40] + " .. " + s[len(s)-40:]
	}
	return strconv.Quote(s)
}

func show(v api.Value) string {
	b, _ := json.Marshal(v)
	return brief(string(b))
}

type result struct {
	v  api.Value
	at int
	e  api.Errno
}

func compare(t *testing.T, name string, got, want result) {
	t.Helper()
	if got.at != want.at || got.e != want.e || !identical(got.v, want.v) {
		t.Errorf("%s = %s, %d, error %d; expected %s, %d, error %d", name, show(got.v), got.at, got.e, show(want.v), want.at, want.e)
	}
}

func parse(s string) result {
	v, at, e := Parse(s)
	return result{v, at, e}
}

func prefix(s string, at int) result {
	v, to, e := Prefix(s, at)
	return result{v, to, e}
}

func expectParse(t *testing.T, s string, want result) {
	t.Helper()
	compare(t, "Parse("+brief(s)+")", parse(s), want)
}

func expectPrefix(t *testing.T, s string, at int, want result) {
	t.Helper()
	compare(t, "Prefix("+brief(s)+", "+strconv.Itoa(at)+")", prefix(s, at), want)
}

// expectValue expects that s is a text of v, also among blanks, and the beginning of a text behind any bytes.
func expectValue(t *testing.T, s string, v api.Value) {
	t.Helper()
	for _, blanks := range []string{"", " ", "\t", "\n", "\r", " \r\n\t  "} {
		for _, behind := range []string{"", " ", "\t", "\n", "\r", " \r\n\t  "} {
			whole := blanks + s + behind
			expectParse(t, whole, result{v, len(whole), api.OK})
		}
		for _, before := range []string{"", " ", "1", "[", "{\"a\":", "\"", "\\", "\xff"} {
			for _, behind := range []string{"", " ", " 1", "]", "}", ",", ":", "\"", "[", "{\"", "\n\xff", "\xff", "\x00", "A", " nul", " 01"} {
				expectPrefix(t, before+blanks+s+behind, len(before), result{v, len(before + blanks + s), api.OK})
			}
		}
	}
}

// expectError expects an error of s from Parse, and from Prefix also behind other bytes.
func expectError(t *testing.T, s string, at int, e api.Errno) {
	t.Helper()
	expectParse(t, s, result{null, at, e})
	expectPrefix(t, s, 0, result{null, at, e})
	for _, before := range []string{"[[]", " \"\xff"} {
		expectPrefix(t, before+s, len(before), result{null, at + len(before), e})
	}
}

type text struct {
	s string
	v api.Value
}

func texts() []text {
	return []text{
		{"null", null}, {"false", no}, {"true", yes}, {"0", num(0)}, {"-0", num(0)}, {"-12", num(-12)},
		{"9223372036854775807", num(math.MaxInt64)}, {"-9223372036854775808", num(math.MinInt64)},
		{`""`, str("")}, {`"aéb"`, str("aéb")}, {`"[1,"`, str("[1,")}, {`"\"\\\/\b\f\n\r\t\u0041\ud83d\ude00"`, str("\"\\/\x08\x0c\n\r\tA\U0001F600")},
		{"[]", empty}, {"[ \n]", empty}, {"{}", bare}, {"{\t}", bare}, {"[[]]", arr(empty)}, {"[{}]", arr(bare)}, {"[[],[]]", arr(empty, empty)},
		{"[1]", arr(num(1))}, {"[null,false,true,-1,\"\",[],{}]", arr(null, no, yes, num(-1), str(""), empty, bare)},
		{"[1,[2,[3,[4]],5],6]", arr(num(1), arr(num(2), arr(num(3), arr(num(4))), num(5)), num(6))},
		{"[ 1 , \"a\"\n,\t[ ] ]", arr(num(1), str("a"), empty)}, {"[1,1,1]", arr(num(1), num(1), num(1))},
		{`{"a":1}`, obj("a", num(1))}, {`{"":1}`, api.Value{Kind: api.Object, Keys: []string{""}, Elems: []api.Value{num(1)}}},
		{`{"a":null,"b":[],"c":{"d":"e"}}`, obj("a b c", null, empty, obj("d", str("e")))}, {"{ \"a\"\n:\t1\r, \"b\" :2 }", obj("a b", num(1), num(2))},
		{`{"b":1,"a":2}`, obj("a b", num(2), num(1))}, {`{"a":{"a":{"a":{}}}}`, obj("a", obj("a", obj("a", bare)))},
		{`[{"b":[{"d":1,"c":2}],"a":0},{"a":3}]`, arr(obj("a b", num(0), arr(obj("c d", num(2), num(1)))), obj("a", num(3)))},
		{`{"é":1,"a":2,"B":3,"😀":4,"￿":5,"aa":6}`, obj("B a aa é \uFFFF \U0001F600", num(3), num(2), num(6), num(1), num(5), num(4))},
	}
}

func TestP4_1Values(t *testing.T) {
	for _, x := range texts() {
		expectValue(t, x.s, x.v)
	}
}

// If a key occurs several times, its last value counts, whatever the others are.
func TestP4_1Duplicates(t *testing.T) {
	for _, x := range []text{
		{`{"b":1,"a":2,"b":3}`, obj("a b", num(2), num(3))}, {`{"b":3,"b":1,"a":2}`, obj("a b", num(2), num(1))}, {`{"a":1,"a":1}`, obj("a", num(1))},
		{`{"a":1,"a":null}`, obj("a", null)}, {`{"a":null,"a":1}`, obj("a", num(1))}, {`{"a":[1,2],"a":{"c":1},"a":[3]}`, obj("a", arr(num(3)))},
		{`{"a":{"b":1},"a":{"c":2}}`, obj("a", obj("c", num(2)))}, {`{"a":1,"\u0061":2}`, obj("a", num(2))}, {`{"\u0061":1,"a":2}`, obj("a", num(2))},
		{`{"a":1,"b":2,"a":3,"b":4,"a":5}`, obj("a b", num(5), num(4))}, {`[{"a":1,"a":2},{"a":3}]`, arr(obj("a", num(2)), obj("a", num(3)))},
		{`{"x":{"a":1,"a":2},"a":0,"x":{"a":3,"a":4}}`, obj("a x", num(0), obj("a", num(4)))},
	} {
		expectValue(t, x.s, x.v)
	}
}

func TestP4_1Examples(t *testing.T) {
	s := ` {"b": 1, "a": [true], "b": null} `
	expectParse(t, s, result{obj("a b", arr(yes), null), len(s), api.OK})
	s = `{"b":1,"a":2,"b":3}`
	expectParse(t, s, result{obj("a b", num(2), num(3)), len(s), api.OK})
}

// Prefix reads one value after the other, and nothing behind it.
func TestP4_1PrefixChain(t *testing.T) {
	s := " 1 [2,{\"a\":3}]\"x\"null{}\n-4,"
	at := 0
	for _, x := range []struct {
		v  api.Value
		to int
	}{{num(1), 2}, {arr(num(2), obj("a", num(3))), 14}, {str("x"), 17}, {null, 21}, {bare, 23}, {num(-4), 26}} {
		expectPrefix(t, s, at, result{x.v, x.to, api.OK})
		at = x.to
	}
	expectPrefix(t, s, at, result{null, at, api.ErrSyntax})
}

func TestP4_2Examples(t *testing.T) {
	expectError(t, "[1,]", 3, api.ErrSyntax)
	expectError(t, "[1", 2, api.ErrTruncated)
	expectParse(t, "1 2", result{null, 2, api.ErrSyntax})
	expectError(t, "", 0, api.ErrTruncated)
	expectError(t, strings.Repeat("[", 33), 32, api.ErrDepth)
}

func TestP4_2PrefixRange(t *testing.T) {
	for _, s := range []string{"", " ", "1", "[1]", "\"", "x\xff", strings.Repeat("[", 33)} {
		for _, at := range []int{math.MinInt, -len(s), -2, -1, len(s) + 1, len(s) + 2, math.MaxInt} {
			if at < 0 || at > len(s) {
				expectPrefix(t, s, at, result{null, 0, api.ErrRange})
			}
		}
		expectPrefix(t, s, len(s), result{null, len(s), api.ErrTruncated})
	}
}

// Behind a value, Parse wants the end of the text.
func TestP4_2Behind(t *testing.T) {
	for _, x := range []struct {
		behind string
		at     int
		e      api.Errno
	}{
		{" 1", 1, api.ErrSyntax}, {"\n\nnull", 2, api.ErrSyntax}, {" \"a\"", 1, api.ErrSyntax}, {",", 0, api.ErrSyntax}, {" ]", 1, api.ErrSyntax}, {"}", 0, api.ErrSyntax}, {":", 0, api.ErrSyntax},
		{"[", 0, api.ErrSyntax}, {"{}", 0, api.ErrSyntax}, {" 01", 2, api.ErrSyntax}, {" 1.5", 1, api.ErrNumber}, {" nul", 1, api.ErrSyntax}, {" \"a", 3, api.ErrTruncated}, {"\xff", 0, api.ErrSyntax},
		{" \"\xff", 2, api.ErrUTF8}, {" -", 2, api.ErrSyntax}, {" \"" + strings.Repeat("x", api.MaxString+1) + "\"", 1, api.ErrLimit}, {" 1 2", 1, api.ErrSyntax}, {" 1 01", 1, api.ErrSyntax},
	} {
		for _, y := range texts() {
			s := y.s + x.behind
			expectParse(t, s, result{null, len(y.s) + x.at, x.e})
			expectPrefix(t, s, 0, result{y.v, len(y.s), api.OK})
		}
	}
}

// The end of the text is an error in every place where a token is needed, with and without blanks before it.
func TestP4_2Truncated(t *testing.T) {
	for _, before := range beginnings() {
		for _, blanks := range []string{"", " ", "\n\t \r"} {
			expectError(t, before+blanks, len(before+blanks), api.ErrTruncated)
		}
	}
}

// An error of jsonlex comes before all other errors of its token, with its own offset.
func TestP4_2Tokens(t *testing.T) {
	long := `"` + strings.Repeat("x", api.MaxString+1)
	for _, x := range []struct {
		s  string
		at int
		e  api.Errno
	}{
		{"@", 0, api.ErrSyntax}, {"nul", 0, api.ErrSyntax}, {"Null", 0, api.ErrSyntax}, {"truefalse", 0, api.ErrSyntax}, {"\xff", 0, api.ErrSyntax}, {"\x00", 0, api.ErrSyntax}, {"'a'", 0, api.ErrSyntax},
		{"-", 1, api.ErrSyntax}, {"-a", 1, api.ErrSyntax}, {"01", 1, api.ErrSyntax}, {"-00", 2, api.ErrSyntax}, {"1.5", 0, api.ErrNumber}, {"1e5", 0, api.ErrNumber}, {"9223372036854775808", 0, api.ErrNumber},
		{"\"", 1, api.ErrTruncated}, {"\"ab\\", 4, api.ErrTruncated}, {"\"a\nb\"", 2, api.ErrSyntax}, {"\"\\x\"", 1, api.ErrSyntax}, {"\"a\xff\"", 2, api.ErrUTF8}, {"\"\\ude00\"", 1, api.ErrSyntax},
		{long + `"`, 0, api.ErrLimit}, {long, len(long), api.ErrTruncated}, {long + "\n", len(long), api.ErrSyntax},
	} {
		for _, before := range beginnings() {
			for _, blanks := range []string{" ", "\n \t"} {
				expectError(t, before+blanks+x.s, len(before+blanks)+x.at, x.e)
			}
		}
	}
}

// shape writes a sign for each token: 1 for words and numbers, s for strings.
func shape(tokens []api.Token) string {
	var b []byte
	for _, token := range tokens {
		switch token.Kind {
		case api.TokenPunct:
			b = append(b, token.Byte)
		case api.TokenString:
			b = append(b, 's')
		default:
			b = append(b, '1')
		}
	}
	return string(b)
}

var (
	units = strings.NewReplacer("s:", "k", "s", "v", "1", "v")
	lists = regexp.MustCompile(`\[(v(,v)*)?\]|\{(kv(,kv)*)?\}`)
)

// whole is another statement of the grammar: arrays and objects of values are replaced by values until nothing changes.
func whole(signs string) bool {
	signs = units.Replace(signs)
	for {
		shorter := lists.ReplaceAllString(signs, "v")
		if shorter == signs {
			return signs == "v"
		}
		signs = shorter
	}
}

// closing returns the signs that close what the signs of s have opened. It takes no notice of strings.
func closing(s string) string {
	open := ""
	for _, sign := range s {
		switch sign {
		case '[':
			open = "]" + open
		case '{':
			open = "}" + open
		case ']', '}':
			open = open[min(1, len(open)):]
		}
	}
	return open
}

// viable reports whether some tokens complete the signs to a value. Those that are tried here suffice.
func viable(signs string) bool {
	for _, s := range []string{"", "1", ":1", "s:1"} {
		if whole(signs + s + closing(signs)) {
			return true
		}
	}
	return false
}

// tokensOf returns the tokens of s, and the first error of jsonlex and its offset, or ErrTruncated and len(s).
func tokensOf(s string) ([]api.Token, int, api.Errno) {
	var tokens []api.Token
	for at := 0; ; {
		token, to, e := jsonlex.Next(s, at)
		switch {
		case e != api.OK:
			return tokens, to, e
		case token.Kind == api.TokenEnd:
			return tokens, len(s), api.ErrTruncated
		}
		tokens = append(tokens, token)
		at = to
	}
}

// wanted is another statement of the chapter for texts within the limits: the results of Parse and of Prefix at 0.
func wanted(t *testing.T, s string) (result, result) {
	t.Helper()
	tokens, at, e := tokensOf(s)
	signs := shape(tokens)
	failure := result{null, at, e}
	for i, token := range tokens {
		if whole(signs[:i]) {
			first := result{decoded(t, s[:token.From]), tokens[i-1].To, api.OK}
			return result{null, token.From, api.ErrSyntax}, first
		}
		if !viable(signs[:i+1]) {
			failure = result{null, token.From, api.ErrSyntax}
			return failure, failure
		}
	}
	if !whole(signs) {
		return failure, failure
	}
	to := tokens[len(tokens)-1].To
	first := result{decoded(t, s[:to]), to, api.OK}
	if e == api.ErrTruncated && at == len(s) && strings.Trim(s[to:], " \t\n\r") == "" {
		return result{first.v, len(s), api.OK}, first
	}
	return failure, first
}

// decoded is the value of a text according to the standard library.
func decoded(t *testing.T, s string) api.Value {
	t.Helper()
	var v any
	decoder := json.NewDecoder(strings.NewReader(s))
	decoder.UseNumber()
	if err := decoder.Decode(&v); err != nil {
		t.Fatal(brief(s), err)
	}
	return converted(v)
}

func converted(v any) api.Value {
	out := null
	switch v := v.(type) {
	case bool:
		out = map[bool]api.Value{true: yes, false: no}[v]
	case json.Number:
		n, _ := v.Int64()
		out = num(n)
	case string:
		out = str(v)
	case []any:
		out = empty
		for _, elem := range v {
			out.Elems = append(out.Elems, converted(elem))
		}
	case map[string]any:
		out = bare
		for key := range v {
			out.Keys = append(out.Keys, key)
		}
		sort.Strings(out.Keys)
		for _, key := range out.Keys {
			out.Elems = append(out.Elems, converted(v[key]))
		}
	}
	return out
}

func expectWanted(t *testing.T, s string) {
	t.Helper()
	whole, first := wanted(t, s)
	expectParse(t, s, whole)
	expectPrefix(t, s, 0, first)
}

// checkAll compares the functions with wanted for the text, and for its extensions by at most n tokens.
// What follows an error is varied by one token only.
func checkAll(t *testing.T, s string, n int) {
	t.Helper()
	expectWanted(t, s)
	expectWanted(t, s+"\n")
	expectWanted(t, strings.ReplaceAll(s, " ", ""))
	if n == 0 || t.Failed() {
		return
	}
	if tokens, _, _ := tokensOf(s); !viable(shape(tokens)) {
		n = 1
	}
	for _, token := range []string{"[", "]", "{", "}", ",", ":", "1", `"a"`} {
		checkAll(t, s+" "+token, n-1)
	}
}

func TestP4_2AllShortTexts(t *testing.T) {
	checkAll(t, "", 6)
	checkAll(t, `{"b":`, 5)
	checkAll(t, `[{"a":[2],`, 5)
	checkAll(t, `{"a":{"b":3},"a"`, 5)
}

// randomText returns a text of a value that is nested at most depth deep. Keys occur several times.
func randomText(r *rand.Rand, depth int) string {
	blank := func() string { return []string{"", "", "", " ", "\n", "\t\r "}[r.Intn(6)] }
	atoms := []string{"null", "true", "false", "0", "-0", "7", "-31", `""`, `"a"`, `"\u00e9\n"`, `"€"`, "[]", "{}"}
	kind := r.Intn(4)
	if depth == 0 || kind == 0 {
		return blank() + atoms[r.Intn(len(atoms))] + blank()
	}
	var l []string
	for range r.Intn(5) {
		elem := randomText(r, depth-1)
		if kind == 1 {
			elem = blank() + []string{`"a"`, `"b"`, `"\u0061"`, `""`, `"é"`, `"B"`}[r.Intn(6)] + blank() + ":" + elem
		}
		l = append(l, elem)
	}
	if kind == 1 {
		return blank() + "{" + strings.Join(l, ",") + blank() + "}" + blank()
	}
	return blank() + "[" + strings.Join(l, ",") + blank() + "]" + blank()
}

// Random texts, and what becomes of them when bytes are lost, doubled or exchanged.
func TestP4_2RandomTexts(t *testing.T) {
	r := rand.New(rand.NewSource(4))
	for range 3000 {
		s := randomText(r, 4)
		expectParse(t, s, result{decoded(t, s), len(s), api.OK})
		if len(s) > 150 {
			continue
		}
		expectWanted(t, s)
		at := r.Intn(len(s))
		expectWanted(t, s[:at])
		expectWanted(t, s[:at]+s[at+1:])
		expectWanted(t, s[:at+1]+s[at:])
		expectWanted(t, s[:at]+string("[]{},:1\"n \x00\xff"[r.Intn(12)])+s[at+1:])
	}
}

// FuzzParse runs on its seeds with go test, and goes on from them with go test -fuzz.
func FuzzParse(f *testing.F) {
	for _, x := range texts() {
		f.Add(x.s)
	}
	f.Fuzz(func(t *testing.T, s string) {
		if len(s) <= 200 && strings.Count(s, "[")+strings.Count(s, "{") <= api.MaxDepth {
			expectWanted(t, s)
		}
	})
}

// spoil overwrites all slices of a value with their spare capacity.
func spoil(v api.Value) {
	keys, elems := v.Keys[:cap(v.Keys)], v.Elems[:cap(v.Elems)]
	for i := range keys {
		keys[i] = "spoilt"
	}
	for i := range elems {
		spoil(elems[i])
		elems[i] = num(-77)
	}
}

func TestResultsAreNewMemory(t *testing.T) {
	s := `[[1,2,3],[{"a":[4],"b":5},{"a":[4],"b":5}],[[],[],[]],[1,2,3],{}]`
	want := decoded(t, s)
	first := parse(s).v
	second := parse(s).v
	third := prefix(s, 0).v
	spoil(first)
	compare(t, "a result whose text was parsed before", result{v: second}, result{v: want})
	for i := range second.Elems {
		spoil(second.Elems[i])
		for k := i + 1; k < len(want.Elems); k++ {
			compare(t, "an element beside one that is changed", result{v: second.Elems[k]}, result{v: want.Elems[k]})
		}
	}
	compare(t, "a result of Prefix", result{v: third}, result{v: want})
}
