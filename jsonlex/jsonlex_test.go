package jsonlex

import (
	"encoding/json"
	"math"
	"math/big"
	"regexp"
	"strings"
	"testing"
	"unicode/utf8"

	"ndjq/api"
)

func expect(t *testing.T, s string, at int, want api.Token, wantAt int, wantErr api.Errno) {
	t.Helper()
	if token, to, e := Next(s, at); token != want || to != wantAt || e != wantErr {
		t.Errorf("Next(%s, %d) = %s, %d, error %d; expected %s, %d, error %d", brief(s), at, show(token), to, e, show(want), wantAt, wantErr)
	}
}

func expectError(t *testing.T, s string, at, wantAt int, wantErr api.Errno) {
	t.Helper()
	expect(t, s, at, api.Token{}, wantAt, wantErr)
}

func brief(s string) string {
	b, _ := json.Marshal([]byte(s[:min(len(s), 40)]))
	return strings.ToValidUTF8(s[:min(len(s), 40)], "?") + " " + string(b)
}

func show(token api.Token) string {
	token.Str = brief(token.Str)
	b, _ := json.Marshal(token)
	return string(b)
}

// shift moves a token and its bounds to the right.
func shift(token api.Token, by int) api.Token {
	token.From += by
	token.To += by
	return token
}

func TestP3_1Blank(t *testing.T) {
	for i := range 256 {
		b := byte(i)
		want := b == ' ' || b == '\t' || b == '\n' || b == '\r'
		if Blank(b) != want {
			t.Errorf("Blank(%#x) = %v", b, !want)
		}
	}
}

func TestP3_1Skip(t *testing.T) {
	for _, x := range []struct {
		s        string
		at, want int
	}{
		{"", 0, 0}, {"a", 0, 0}, {"a", 1, 1}, {" a", 0, 1}, {" a", 1, 1}, {" \t\n\ra \r", 0, 4}, {" \t\n\ra \r", 2, 4},
		{" \t\n\ra \r", 4, 4}, {" \t\n\ra \r", 5, 7}, {" \t\n\ra \r", 7, 7}, {"   ", 0, 3}, {"   ", 3, 3}, {"\"  \"", 1, 3},
		{"\v ", 0, 0}, {"\f ", 0, 0}, {" \x00 ", 0, 1}, {" \u00A0 ", 0, 1}, {" \u2028 ", 0, 1}, {" \uFEFF ", 0, 1}, {" \x85 ", 0, 1}, {" \xff ", 0, 1},
	} {
		if got := Skip(x.s, x.at); got != x.want {
			t.Errorf("Skip(%q, %d) = %d", x.s, x.at, got)
		}
	}
}

func TestP3_1SkipOutOfRange(t *testing.T) {
	for _, s := range []string{"", " ", "  a  "} {
		for _, at := range []int{math.MinInt, -2, -1, len(s) + 1, len(s) + 2, math.MaxInt} {
			if got := Skip(s, at); got != at {
				t.Errorf("Skip(%q, %d) = %d", s, at, got)
			}
		}
	}
}

type literal struct {
	s    string
	want api.Token // From and To are those of the text itself
}

func literals() []literal {
	var l []literal
	for _, b := range []byte("[]{},:") {
		l = append(l, literal{string(b), api.Token{Kind: api.TokenPunct, Byte: b}})
	}
	for _, s := range []string{"null", "true", "false"} {
		l = append(l, literal{s, api.Token{Kind: api.TokenWord, Byte: s[0]}})
	}
	for s, n := range map[string]int64{
		"0": 0, "-0": 0, "1": 1, "-1": -1, "10": 10, "-12": -12, "9": 9, "1002003": 1002003, "9999999999999999": 9999999999999999,
		"9223372036854775807": math.MaxInt64, "-9223372036854775807": -math.MaxInt64, "-9223372036854775808": math.MinInt64,
	} {
		l = append(l, literal{s, api.Token{Kind: api.TokenNumber, Int: n}})
	}
	for s, value := range stringLiterals() {
		l = append(l, literal{s, api.Token{Kind: api.TokenString, Str: value}})
	}
	for i := range l {
		l[i].want.To = len(l[i].s)
	}
	return l
}

func stringLiterals() map[string]string {
	return map[string]string{
		`""`: "", `"a"`: "a", `" a "`: " a ", `"[1,null]"`: "[1,null]", `"aéb"`: "aéb", `"€"`: "€", `"😀"`: "\U0001F600",
		"\"\x7f\"": "\x7f", "\"\u0080\u2028\uFEFF\uFFFF\U0010FFFF\"": "\u0080\u2028\uFEFF\uFFFF\U0010FFFF",
		`"\""`: `"`, `"\\"`: `\`, `"\/"`: "/", `"/"`: "/", `"\b"`: "\x08", `"\f"`: "\x0c", `"\n"`: "\x0a", `"\r"`: "\x0d", `"\t"`: "\x09",
		`"\"\\\/\b\f\n\r\t"`: "\"\\/\x08\x0c\x0a\x0d\x09", `"\\n"`: `\n`, `"\\\\"`: `\\`, `"\\\""`: `\"`, `"a\nb"`: "a\nb", `"'"`: "'",
		`"\u0000"`: "\x00", `"\u001f"`: "\x1f", `"\u0022"`: `"`, `"\u005c"`: `\`, `"\u0041x"`: "Ax", `"\u00e9"`: "é", `"\u00E9"`: "é",
		`"\u0080"`: "\u0080", `"\u07ff"`: "\u07FF", `"\u0800"`: "\u0800", `"\ud7ff"`: "\uD7FF", `"\uE000"`: "\uE000", `"\uffff"`: "\uFFFF",
		`"\uabcd\uEF01\u2345\u6789"`: "\uABCD\uEF01\u2345\u6789", `"\u00411"`: "A1", `"\\u0041"`: `\u0041`,
		`"\ud83d\ude00"`: "\U0001F600", `"\uD83D\uDE00"`: "\U0001F600", `"\uD83d\uDe00x"`: "\U0001F600x",
		`"\ud800\udc00"`: "\U00010000", `"\udbff\udfff"`: "\U0010FFFF", `"\ud800\udfff"`: "\U000103FF", `"\udbff\udc00"`: "\U0010FC00",
		`"\ud83d\ude00\ud83d\ude01"`: "\U0001F600\U0001F601", `"\ue000\u0041"`: "\uE000A",
	}
}

// What stands before the offset and behind the token does not matter.
func TestP3_2Tokens(t *testing.T) {
	for _, x := range literals() {
		for _, before := range []string{"", " ", "x", "\"", "\\", "-", "1", "tru", "\xff", "\"\\ud83d", "[1,"} {
			for _, blanks := range []string{"", " ", "\t", "\n", "\r", " \r\n\t  "} {
				for _, behind := range []string{"", " ", "]", "}", ",", ":", "[", "\"", "\n1", "-", "+", "A", "\x00", "\xff", "é"} {
					from := len(before) + len(blanks)
					want := shift(x.want, from)
					expect(t, before+blanks+x.s+behind, len(before), want, want.To, api.OK)
				}
			}
		}
	}
}

func TestP3_2Neighbours(t *testing.T) {
	for _, x := range []struct {
		s    string
		to   int
		kind int
	}{
		{"null1", 4, api.TokenWord}, {"true_", 4, api.TokenWord}, {"falseX", 5, api.TokenWord}, {"nullNULL", 4, api.TokenWord}, {"true\"\"", 4, api.TokenWord},
		{"null`", 4, api.TokenWord}, {"null{", 4, api.TokenWord}, {"nullé", 4, api.TokenWord}, {"false-1", 5, api.TokenWord},
		{"1null", 1, api.TokenNumber}, {"12abc", 2, api.TokenNumber}, {"0x10", 1, api.TokenNumber}, {"1-2", 1, api.TokenNumber}, {"0-0", 1, api.TokenNumber},
		{"1_000", 1, api.TokenNumber}, {"5f", 1, api.TokenNumber}, {"5D", 1, api.TokenNumber}, {"5/2", 1, api.TokenNumber}, {"5:", 1, api.TokenNumber},
		{"7 .5", 1, api.TokenNumber}, {"7 e5", 1, api.TokenNumber}, {"0 1", 1, api.TokenNumber}, {"-3\"e\"", 2, api.TokenNumber},
		{"\"a\"\"b\"", 3, api.TokenString}, {"\"a\"b\"", 3, api.TokenString}, {"\"\\\\\"\"", 4, api.TokenString}, {"\"\"\x01", 2, api.TokenString}, {"\"\"\\", 2, api.TokenString},
		{"[[", 1, api.TokenPunct}, {"::", 1, api.TokenPunct}, {"}x", 1, api.TokenPunct}, {",.", 1, api.TokenPunct},
	} {
		token, to, e := Next(x.s, 0)
		if token.Kind != x.kind || token.From != 0 || token.To != x.to || to != x.to || e != api.OK {
			t.Errorf("Next(%q, 0) = %s, %d, error %d", x.s, show(token), to, e)
		}
	}
}

func TestP3_2End(t *testing.T) {
	for _, s := range []string{"", " ", "\t\n\r ", "1", "1 ", "\xff  ", "\"", "null \n"} {
		end := api.Token{Kind: api.TokenEnd, From: len(s), To: len(s)}
		from := len(strings.TrimRight(s, " \t\n\r"))
		for at := from; at <= len(s); at++ {
			expect(t, s, at, end, len(s), api.OK)
		}
	}
}

// A text is split by going on at the offset behind each token.
func TestP3_2Chain(t *testing.T) {
	s := " {\"b\" : [1,-20, null],\r\n\t\"\\u0061\":false}  "
	want := []api.Token{
		{Kind: api.TokenPunct, From: 1, To: 2, Byte: '{'}, {Kind: api.TokenString, From: 2, To: 5, Str: "b"}, {Kind: api.TokenPunct, From: 6, To: 7, Byte: ':'},
		{Kind: api.TokenPunct, From: 8, To: 9, Byte: '['}, {Kind: api.TokenNumber, From: 9, To: 10, Int: 1}, {Kind: api.TokenPunct, From: 10, To: 11, Byte: ','},
		{Kind: api.TokenNumber, From: 11, To: 14, Int: -20}, {Kind: api.TokenPunct, From: 14, To: 15, Byte: ','}, {Kind: api.TokenWord, From: 16, To: 20, Byte: 'n'},
		{Kind: api.TokenPunct, From: 20, To: 21, Byte: ']'}, {Kind: api.TokenPunct, From: 21, To: 22, Byte: ','}, {Kind: api.TokenString, From: 25, To: 33, Str: "a"},
		{Kind: api.TokenPunct, From: 33, To: 34, Byte: ':'}, {Kind: api.TokenWord, From: 34, To: 39, Byte: 'f'}, {Kind: api.TokenPunct, From: 39, To: 40, Byte: '}'},
		{Kind: api.TokenEnd, From: 42, To: 42}, {Kind: api.TokenEnd, From: 42, To: 42},
	}
	at := 0
	for _, token := range want {
		expect(t, s, at, token, token.To, api.OK)
		at = token.To
	}
}

func TestP3_2Examples(t *testing.T) {
	expect(t, " -12,", 0, api.Token{Kind: api.TokenNumber, From: 1, To: 4, Int: -12}, 4, api.OK)
	expectError(t, "01", 0, 1, api.ErrSyntax)
	expectError(t, "1.5", 0, 0, api.ErrNumber)
	expectError(t, "9223372036854775808", 0, 0, api.ErrNumber)
	expect(t, `"\ud83d\ude00"`, 0, api.Token{Kind: api.TokenString, To: 14, Str: "\U0001F600"}, 14, api.OK)
	expectError(t, `"\ude00"`, 0, 1, api.ErrSyntax)
	expectError(t, "nul", 0, 0, api.ErrSyntax)
}

func TestP3_3Range(t *testing.T) {
	for _, s := range []string{"", " ", "1", "\"", "x\xff"} {
		for _, at := range []int{math.MinInt, -2, -1, len(s) + 1, len(s) + 2, math.MaxInt} {
			expectError(t, s, at, 0, api.ErrRange)
		}
	}
}

func TestP3_3FirstByte(t *testing.T) {
	for i := range 256 {
		b := byte(i)
		if Blank(b) || strings.IndexByte("[]{},:-\"", b) >= 0 || '0' <= b && b <= '9' || 'a' <= b && b <= 'z' {
			continue
		}
		for _, behind := range []string{"", " ", "1", "ull", "\"a\"", "\xff"} {
			expectError(t, string([]byte{b})+behind, 0, 0, api.ErrSyntax)
			expectError(t, "\" \n"+string([]byte{b})+behind, 1, 3, api.ErrSyntax)
		}
	}
	for _, s := range []string{"é1", "\uFEFF1", "\u00A01", "𝟏", "'a'", "/**/1", "+1", ".5", "NaN", "True", "Infinity", "\\u0031"} {
		expectError(t, s, 0, 0, api.ErrSyntax)
	}
}

type failure struct {
	s  string
	at int
	e  api.Errno
}

func checkFailures(t *testing.T, l []failure) {
	t.Helper()
	for _, x := range l {
		for _, before := range []string{"", " ", "x \n", "\" "} {
			at := strings.IndexAny(before, " ")
			expectError(t, before+x.s, max(at, 0), x.at+len(before), x.e)
		}
	}
}

func TestP3_3Words(t *testing.T) {
	for _, s := range []string{"n", "t", "f", "a", "z", "nul", "nulll", "nullnull", "nulltrue", "tru", "truee", "fals", "falsee", "nullz", "nulla", "truez", "falsea", "nill", "nan", "inf", "undefined", "e", "e5", "u0041"} {
		for _, behind := range []string{"", " ", ",", "1", "X", "\"", "\xff"} {
			checkFailures(t, []failure{{s + behind, 0, api.ErrSyntax}})
		}
	}
}

func TestP3_3Numbers(t *testing.T) {
	huge := strings.Repeat("1234567890", 1000)
	checkFailures(t, []failure{
		{"-", 1, api.ErrSyntax}, {"- 1", 1, api.ErrSyntax}, {"-a", 1, api.ErrSyntax}, {"--1", 1, api.ErrSyntax}, {"-.5", 1, api.ErrSyntax},
		{"-e1", 1, api.ErrSyntax}, {"-\"\"", 1, api.ErrSyntax}, {"-null", 1, api.ErrSyntax}, {"-\xff", 1, api.ErrSyntax},
		{"00", 1, api.ErrSyntax}, {"01", 1, api.ErrSyntax}, {"-00", 2, api.ErrSyntax}, {"-09", 2, api.ErrSyntax}, {"000", 1, api.ErrSyntax}, {"01.5", 1, api.ErrSyntax},
		{"-01e5", 2, api.ErrSyntax}, {"0" + huge, 1, api.ErrSyntax}, {"-0" + huge + ".", 2, api.ErrSyntax},
		{"1.5", 0, api.ErrNumber}, {"1.", 0, api.ErrNumber}, {"1e5", 0, api.ErrNumber}, {"1E5", 0, api.ErrNumber}, {"1e", 0, api.ErrNumber}, {"0.0", 0, api.ErrNumber},
		{"-0.5", 0, api.ErrNumber}, {"-0e1", 0, api.ErrNumber}, {"0E", 0, api.ErrNumber}, {"-12.", 0, api.ErrNumber}, {"1else", 0, api.ErrNumber}, {"1.x", 0, api.ErrNumber},
		{"9223372036854775808", 0, api.ErrNumber}, {"-9223372036854775809", 0, api.ErrNumber}, {"9223372036854775810", 0, api.ErrNumber},
		{"18446744073709551615", 0, api.ErrNumber}, {"18446744073709551616", 0, api.ErrNumber}, {"18446744073709551617", 0, api.ErrNumber},
		{"-18446744073709551616", 0, api.ErrNumber}, {"10000000000000000000", 0, api.ErrNumber}, {"-10000000000000000000", 0, api.ErrNumber},
		{huge, 0, api.ErrNumber}, {"-" + huge, 0, api.ErrNumber}, {huge + ".5", 0, api.ErrNumber}, {huge + ",", 0, api.ErrNumber},
	})
}

func TestP3_3Truncated(t *testing.T) {
	for _, s := range []string{
		`"`, `"a`, `"aé`, `"a b`, `"\"`, `"\\`, `"\n`, `"\u0041`, `"\ud83d\ude00`, "\"\x7f", `"\\\"`, `"a,1]`,
		`"\`, `"a\`, `"\\\`, `"\u`, `"\u0`, `"\u00`, `"\u004`, `"\uD`, `"\ud`, `"\ud7`, `"\uE`, `"\uE0`, `"\ud8`, `"\uDB`, `"\ud83`, `"\udBf`, `"\uF`, `"\ufF`, `"\uFfF`,
		`"\ud83d`, `"\ud83d\`, `"\ud83d\u`, `"\ud83d\ud`, `"\ud83d\uD`, `"\ud83d\udc`, `"\ud83d\uDF`, `"\ud83d\ude`, `"\ud83d\uDe0`, `"\udbff\udff`,
	} {
		checkFailures(t, []failure{{s, len(s), api.ErrTruncated}})
	}
}

func TestP3_3Escapes(t *testing.T) {
	for _, s := range []string{
		`\x`, `\a`, `\v`, `\0`, `\'`, `\ `, `\N`, `\U0041`, `\B`, "\\\n", "\\\x00", "\\\xff", `\é`, "\\\x7f", `\(`, `\[`,
		`\ux`, `\u"`, `\u0"`, `\u00"`, `\u004"`, `\u004g`, `\u00 41`, `\u+041`, `\u-041`, `\ug`, `\uG041`, `\u00é1`, "\\u00\xff", "\\u\x00", `\u\u`, `\u00\n`, `\u{41}`, `\u:000`, `\u/000`, "\\u`000", `\u@000`,
		`\udc`, `\uDC`, `\udd0`, `\ude00`, `\udfff`, `\uDC00`, `\udc00\ud800`, `\udF`,
		`\ud83d"`, `\ud83dx`, `\ud83d\n`, `\ud83d\"`, `\ud83d\\`, `\ud83d\x`, `\ud83d\u"`, `\ud83d\u0`, `\ud83d\u0041`, `\ud83d\uc`, `\ud83d\ue`, `\ud83d\ux`, `\ud83d\uE`,
		`\ud83d\ud8`, `\ud83d\ud83d`, `\ud83d\ud83d\ude00`, `\ud83d\udb`, `\ud83d\ud"`, `\ud83d\udc"`, `\ud83d\udc0"`, `\ud83d\udc0g`, `\ud83d\uE000`, `\ud83d\uDg`, `\udbff\udbff`,
		"\\ud83d\x00", "\\ud83d\xff", "\\ud83d\\\x00", "\\ud83dde00", `\ud83du`, `\ud83d/ude00`, `\ud83d ude00`, `\ud83d\Ude00`,
	} {
		for _, behind := range []string{"", `"`, `", "`, "\xff", "\x00", `\`} {
			if behind == "" && strings.HasSuffix(s, `\`) {
				continue
			}
			checkFailures(t, []failure{{`"` + s + behind, 1, api.ErrSyntax}, {`"é\n` + s + behind, 5, api.ErrSyntax}, {`"\ud83d\ude00` + s + behind, 13, api.ErrSyntax}})
		}
	}
}

func TestP3_3Bytes(t *testing.T) {
	for b := range 0x20 {
		s := string([]byte{byte(b)})
		checkFailures(t, []failure{{"\"" + s, 1, api.ErrSyntax}, {"\"aé\\n" + s + "\"", 6, api.ErrSyntax}, {"\"ab" + s + "\xff\\x", 3, api.ErrSyntax}})
	}
	for _, s := range []string{
		"\x80", "\xbf", "\xc3", "\xc0\x80", "\xc1\xbf", "\xe0\x80\x80", "\xe2\x82", "\xed\xa0\x80", "\xed\xbf\xbf", "\xf0\x9f\x98", "\xf0\x8f\xbf\xbf",
		"\xf4\x90\x80\x80", "\xf8\x88\x80\x80\x80", "\xfe", "\xff",
	} {
		checkFailures(t, []failure{
			{"\"" + s, 1, api.ErrUTF8}, {"\"" + s + "\"", 1, api.ErrUTF8}, {"\"a€\\\\" + s + "\"", 7, api.ErrUTF8}, {"\"" + s + "\x00\\x", 1, api.ErrUTF8},
		})
	}
}

// Of several errors in a string, the first one from the left counts, but for the limit.
func TestP3_3First(t *testing.T) {
	long := strings.Repeat("x", api.MaxString+1)
	checkFailures(t, []failure{
		{"\"\x01\xff\\x", 1, api.ErrSyntax}, {"\"\xff\x01\\x", 1, api.ErrUTF8}, {"\"\\x\x01\xff", 1, api.ErrSyntax}, {"\"a\xff\\", 2, api.ErrUTF8},
		{"\"\\u00\xff", 1, api.ErrSyntax}, {"\"\xc3\"", 1, api.ErrUTF8}, {"\"\\\xff", 1, api.ErrSyntax}, {"\"\\x", 1, api.ErrSyntax},
		{"\"" + long + "\"", 0, api.ErrLimit}, {"\"" + long, len(long) + 1, api.ErrTruncated}, {"\"" + long + "\x1f\"", len(long) + 1, api.ErrSyntax},
		{"\"" + long + "\xff\"", len(long) + 1, api.ErrUTF8}, {"\"" + long + "\\", len(long) + 2, api.ErrTruncated}, {"\"" + long + "\\x\"", len(long) + 1, api.ErrSyntax},
		{"\"" + long + "\\ud83d", len(long) + 7, api.ErrTruncated}, {"\"" + long + "\\ud83d\"", len(long) + 1, api.ErrSyntax},
	})
}

// The limit is on the bytes of the value, not on its code points or on the bytes of the text.
func TestP3_3Limit(t *testing.T) {
	for _, x := range []struct{ s, value string }{
		{"x", "x"}, {"é", "é"}, {"😀", "😀"}, {`\n`, "\n"}, {`\u0041`, "A"}, {`\u00e9`, "é"}, {`\ud83d\ude00`, "😀"},
	} {
		count := api.MaxString / len(x.value)
		full := `"` + strings.Repeat(x.s, count)
		want := api.Token{Kind: api.TokenString, To: len(full) + 1, Str: strings.Repeat(x.value, count)}
		expect(t, full+`"`, 0, want, want.To, api.OK)
		expect(t, "  "+full+`"x`, 1, shift(want, 2), want.To+2, api.OK)
		checkFailures(t, []failure{{full + `a"`, 0, api.ErrLimit}, {full + x.s + `"`, 0, api.ErrLimit}, {full + `\u0000",`, 0, api.ErrLimit}})
	}
}

func TestP3_3LongStringOfEscapes(t *testing.T) {
	for _, s := range []string{`\n`, `\u0041`, `\ud83d\ude00`, "x"} {
		expectError(t, " \""+strings.Repeat(s, 1<<20)+"\"", 0, 1, api.ErrLimit)
	}
}

// wanted is another statement of the chapter, by patterns, for a text that begins with a token or with an error.
func wanted(s string) (api.Token, int, api.Errno) {
	switch {
	case s == "":
		return api.Token{}, 0, api.OK
	case s[0] == '"':
		return wantedString(s)
	case strings.IndexByte("-0123456789", s[0]) >= 0:
		return wantedNumber(s)
	}
	if i := strings.IndexByte("[]{},:", s[0]); i >= 0 {
		return api.Token{Kind: api.TokenPunct, To: 1, Byte: s[0]}, 1, api.OK
	}
	if word := letters.FindString(s); word == "null" || word == "true" || word == "false" {
		return api.Token{Kind: api.TokenWord, To: len(word), Byte: s[0]}, len(word), api.OK
	}
	return api.Token{}, 0, api.ErrSyntax
}

var (
	letters     = regexp.MustCompile(`^[a-z]*`)
	leadingZero = regexp.MustCompile(`^-?0[0-9]`)
	fractional  = regexp.MustCompile(`^-?[0-9]+[.eE]`)
	integer     = regexp.MustCompile(`^-?[0-9]+`)
	element     = regexp.MustCompile(`^\\(?:["\\/bfnrt]|u(?i:[0-9a-ce-f][0-9a-f]{3}|d[0-7][0-9a-f]{2})|u(?i:d[89ab][0-9a-f]{2})\\u(?i:d[c-f][0-9a-f]{2}))`)
)

func wantedNumber(s string) (api.Token, int, api.Errno) {
	switch {
	case !integer.MatchString(s):
		return api.Token{}, 1, api.ErrSyntax
	case leadingZero.MatchString(s):
		return api.Token{}, len(leadingZero.FindString(s)) - 1, api.ErrSyntax
	case fractional.MatchString(s):
		return api.Token{}, 0, api.ErrNumber
	}
	digits := integer.FindString(s)
	n, _ := new(big.Int).SetString(digits, 10)
	if !n.IsInt64() {
		return api.Token{}, 0, api.ErrNumber
	}
	return api.Token{Kind: api.TokenNumber, To: len(digits), Int: n.Int64()}, len(digits), api.OK
}

func wantedString(s string) (api.Token, int, api.Errno) {
	value := ""
	for at := 1; at < len(s); {
		r, size := utf8.DecodeRuneInString(s[at:])
		switch {
		case r == '"':
			return api.Token{Kind: api.TokenString, To: at + 1, Str: value}, at + 1, api.OK
		case r < 0x20:
			return api.Token{}, at, api.ErrSyntax
		case r == utf8.RuneError && size == 1:
			return api.Token{}, at, api.ErrUTF8
		case r == '\\' && !element.MatchString(s[at:]):
			if isBeginning(s[at:]) {
				return api.Token{}, len(s), api.ErrTruncated
			}
			return api.Token{}, at, api.ErrSyntax
		case r == '\\':
			escaped := element.FindString(s[at:])
			part := ""
			if json.Unmarshal([]byte(`"`+escaped+`"`), &part) != nil {
				panic(escaped)
			}
			value += part
			size = len(escaped)
		default:
			value += string(r)
		}
		at += size
	}
	return api.Token{}, len(s), api.ErrTruncated
}

// isBeginning reports whether some bytes complete s to an element. These three suffice for every beginning of one.
func isBeginning(s string) bool {
	for _, whole := range []string{`\n`, `\u0000`, `\ud800\udc00`} {
		if len(s) < len(whole) && element.FindString(s+whole[len(s):]) == s+whole[len(s):] {
			return true
		}
	}
	return false
}

// compareAll compares Next with wanted for all texts that consist of a beginning and at most n of the parts.
func compareAll(t *testing.T, beginning string, parts []string, n int) {
	t.Helper()
	const before = "\"\\u \t"
	want, to, e := wanted(beginning)
	if beginning != "" {
		expect(t, beginning, 0, want, to, e)
		if e == api.OK {
			want = shift(want, len(before))
		}
		expect(t, before+beginning, 3, want, to+len(before), e)
	}
	if n == 0 || t.Failed() {
		return
	}
	for _, part := range parts {
		compareAll(t, beginning+part, parts, n-1)
	}
}

func TestP3_3AllShortTexts(t *testing.T) {
	byBytes := func(s string) []string { return strings.Split(s, "") }
	compareAll(t, "\"", append(byBytes("\"\\ux/n08"), "d", "C", "\x1f", "\xc3", "\xa9"), 5)
	compareAll(t, "\"\\u", append(byBytes("\"\\ud8Dc0f9g"), "\xc3"), 5)
	compareAll(t, "\"\\uD8f0", append(byBytes("\"\\uUdDcBCf0"), "\xa9"), 5)
	compareAll(t, "\"\\udbFF\\u", byBytes("\"\\udDCcF0g"), 6)
	compareAll(t, "", byBytes("-0129.eE,x"), 5)
	compareAll(t, "9223372036854775", byBytes("-0789."), 5)
	compareAll(t, "-9223372036854775", byBytes("-0789."), 5)
	compareAll(t, "", []string{"null", "true", "false", "n", "ull", "t", "X", "1", "-", "\"", "\\", "[", ":", "\xff"}, 4)
}

// All numbers of \u, and all pairs with the bounds of the ranges.
func TestP3_3AllNumbersOfEscapes(t *testing.T) {
	const lower, upper = "0123456789abcdef", "0123456789ABCDEF"
	for r := range 1 << 16 {
		digits := string([]byte{lower[r>>12], upper[r>>8&15], lower[r>>4&15], upper[r&15]})
		for _, behind := range []string{`"`, `\udbff"`, `\udc00"`, `\udfff"`, `\ue000"`} {
			s := `"\u` + digits + behind
			want, to, e := wanted(s)
			expect(t, s, 0, want, to, e)
		}
	}
}

// FuzzNext runs on its seeds with go test, and goes on from them with go test -fuzz.
func FuzzNext(f *testing.F) {
	for _, x := range literals() {
		f.Add(x.s)
	}
	f.Fuzz(func(t *testing.T, s string) {
		s = strings.TrimLeft(s, " \t\n\r")
		want, to, e := wanted(s)
		if len(want.Str) <= api.MaxString {
			expect(t, s, 0, want, to, e)
		}
	})
}
