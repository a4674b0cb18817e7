package flex

import (
	"fmt"
	"math"
	"slices"
	"strings"
	"testing"

	"ndjq/api"
)

func tok(kind, at int, text string) api.FToken {
	return api.FToken{Kind: kind, At: at, Text: text}
}

func num(at int, n int64) api.FToken {
	return api.FToken{Kind: api.FNumber, At: at, Int: n}
}

// outcome is the result of Lex.
type outcome struct {
	tokens []api.FToken
	at     int
	e      api.Errno
}

func lex(s string) outcome {
	tokens, at, e := Lex(s)
	return outcome{tokens, at, e}
}

func (o outcome) equal(other outcome) bool {
	return slices.Equal(o.tokens, other.tokens) && o.at == other.at && o.e == other.e
}

func brief(s string) string {
	if len(s) > 60 {
		return fmt.Sprintf("%q.. of %d bytes", s[:60], len(s))
	}
	return fmt.Sprintf("%q", s)
}

func (o outcome) String() string {
	if len(o.tokens) > 20 {
		return fmt.Sprintf("%d tokens, %d, error %d", len(o.tokens), o.at, o.e)
	}
	var l []string
	for _, token := range o.tokens {
		l = append(l, fmt.Sprintf("{kind %d at %d %s %d}", token.Kind, token.At, brief(token.Text), token.Int))
	}
	return fmt.Sprintf("[%s], %d, error %d", strings.Join(l, " "), o.at, o.e)
}

func expectOutcome(t *testing.T, s string, want outcome) {
	t.Helper()
	if got := lex(s); !got.equal(want) {
		t.Errorf("Lex(%s) = %v; expected %v", brief(s), got, want)
	}
}

// expect expects the tokens and FEnd behind them.
func expect(t *testing.T, s string, tokens ...api.FToken) {
	t.Helper()
	expectOutcome(t, s, outcome{tokens: append(tokens, tok(api.FEnd, len(s), ""))})
}

func expectError(t *testing.T, s string, at int, e api.Errno) {
	t.Helper()
	expectOutcome(t, s, outcome{at: at, e: e})
}

// expectOne expects that s is one token, which begins at 0, also between other tokens.
func expectOne(t *testing.T, s string, token api.FToken) {
	t.Helper()
	expect(t, s, token)
	token.At = 3
	expect(t, "; \t"+s+"\n)", tok(api.FSign, 0, ";"), token, tok(api.FSign, len(s)+4, ")"))
}

// expectErrorAnywhere expects an error also behind tokens, blanks and comments.
func expectErrorAnywhere(t *testing.T, s string, at int, e api.Errno) {
	t.Helper()
	for _, before := range []string{"", " ", "\n\r\t", "#\"$!\xff\n", "a ", ".a|", "12 ", "\"$!\" ", ".. ", "$x,", "if#\n"} {
		expectError(t, before+s, len(before)+at, e)
	}
}

func TestP10_1Examples(t *testing.T) {
	expect(t, ".a|=$x", tok(api.FField, 0, "a"), tok(api.FSign, 2, "|="), tok(api.FVar, 4, "x"))
	expect(t, "...", tok(api.FSign, 0, ".."), tok(api.FSign, 2, "."))
	expectError(t, "1.5", 0, api.ErrNumber)
	expect(t, "1.a", num(0, 1), tok(api.FField, 1, "a"))
	expectError(t, "$ x", 0, api.ErrSyntax)
}

func TestP10_1NoTokens(t *testing.T) {
	for _, s := range []string{"", " ", "\t", "\n", "\r", " \r\n\t ", "#", "# a", "#\n", "##", "#a\n#b", "#a\n \t#b\r\n", "#\"", "#$", "#\xff\x00é", " #\r"} {
		expect(t, s)
	}
}

func TestP10_1Filter(t *testing.T) {
	expect(t, "def f($a):# [\n .b|=\"c\"//-20; if..?",
		tok(api.FKey, 0, "def"), tok(api.FName, 4, "f"), tok(api.FSign, 5, "("), tok(api.FVar, 6, "a"), tok(api.FSign, 8, ")"), tok(api.FSign, 9, ":"),
		tok(api.FField, 15, "b"), tok(api.FSign, 17, "|="), tok(api.FString, 19, "c"), tok(api.FSign, 22, "//"), tok(api.FSign, 24, "-"), num(25, 20), tok(api.FSign, 27, ";"),
		tok(api.FKey, 29, "if"), tok(api.FSign, 31, ".."), tok(api.FSign, 33, "?"))
}

// Each byte by itself begins a token, a comment, a name, or nothing.
func TestP10_1EachByte(t *testing.T) {
	for i := range 256 {
		s := string([]byte{byte(i)})
		switch {
		case strings.Contains(" \t\n\r#", s):
			expect(t, s)
		case strings.Contains(letters, s):
			expectOne(t, s, tok(api.FName, 0, s))
		case strings.Contains(digits, s):
			expectOne(t, s, num(0, int64(i-'0')))
		case strings.Contains(".|,;:()[]{}+-*/%<>=?", s):
			expectOne(t, s, tok(api.FSign, 0, s))
		case s == "\"":
			expectError(t, s, 1, api.ErrTruncated)
		default:
			for _, behind := range []string{"", " ", "a", "1", ".", "\"", "\xff", "\n#"} {
				if s != "$" || behind != "a" {
					expectErrorAnywhere(t, s+behind, 0, api.ErrSyntax)
				}
			}
		}
	}
}

const (
	letters = "abcdefghijklmnopqrstuvwxyzABCDEFGHIJKLMNOPQRSTUVWXYZ_"
	digits  = "0123456789"
)

func words() []string {
	return []string{"and", "as", "break", "catch", "def", "elif", "else", "end", "false", "foreach", "if", "label", "null", "or", "reduce", "then", "true", "try"}
}

// names are names that are no keywords.
func names() []string {
	l := []string{
		"a", "z", "A", "Z", "_", "__", "_1", "a1", "a_b", "aB9_", "map", "select", "inputs", "not", "in", "do", "nul", "x0", "e5", "E", "__loc__", "ands", "andor", "and_", "_and", "or1", "orif", "iff", "truefalse",
		strings.Repeat("x", api.MaxName), "_" + strings.Repeat("9", api.MaxName-1),
	}
	for _, word := range words() {
		l = append(l, strings.ToUpper(word), strings.ToUpper(word[:1])+word[1:], word+"x", word+"_", word+"0", "x"+word, word[:len(word)-1]+"_")
	}
	return l
}

func TestP10_1Names(t *testing.T) {
	for _, s := range names() {
		expectOne(t, s, tok(api.FName, 0, s))
	}
	for _, s := range words() {
		expectOne(t, s, tok(api.FKey, 0, s))
	}
	for _, s := range append(names(), words()...) {
		expectOne(t, "$"+s, tok(api.FVar, 0, s))
		expectOne(t, "."+s, tok(api.FField, 0, s))
	}
}

// A name ends at the first byte that does not belong to it.
func TestP10_1EndsOfNames(t *testing.T) {
	for i := range 256 {
		b := string([]byte{byte(i)})
		switch {
		case strings.Contains(letters+digits, b):
			text := "a" + b + "z"
			expectOne(t, text, tok(api.FName, 0, text))
			expectOne(t, "$"+text, tok(api.FVar, 0, text))
			expectOne(t, "."+text, tok(api.FField, 0, text))
		case strings.Contains(" \t\n\r#", b):
			expect(t, "$if"+b, tok(api.FVar, 0, "if"))
		case strings.Contains(".|,;:()[]{}+-*/%<>=?", b):
			expect(t, "$if"+b, tok(api.FVar, 0, "if"), tok(api.FSign, 3, b))
		case b != "\"":
			expectError(t, "$if"+b, 3, api.ErrSyntax)
		}
	}
	expect(t, "a.b$c.d\"e\"if.if$if", tok(api.FName, 0, "a"), tok(api.FField, 1, "b"), tok(api.FVar, 3, "c"), tok(api.FField, 5, "d"), tok(api.FString, 7, "e"), tok(api.FKey, 10, "if"), tok(api.FField, 12, "if"), tok(api.FVar, 15, "if"))
	expectError(t, "é", 0, api.ErrSyntax)
	expectError(t, "aé", 1, api.ErrSyntax)
	expectError(t, ".é", 1, api.ErrSyntax)
	expectError(t, "$é", 0, api.ErrSyntax)
}

// A name stands directly behind the dollar sign or the point.
func TestP10_1DollarAndPoint(t *testing.T) {
	for _, s := range []string{"$", "$ ", "$ x", "$1", "$$x", "$.a", "$\"x\"", "$#\nx", "$\nx", "$-x", "$é", "$\xff", "$|", "$(x)", "$\x00"} {
		expectErrorAnywhere(t, s, 0, api.ErrSyntax)
	}
	expectError(t, "$x$", 2, api.ErrSyntax)
	expect(t, ". a", tok(api.FSign, 0, "."), tok(api.FName, 2, "a"))
	expect(t, ".\na", tok(api.FSign, 0, "."), tok(api.FName, 2, "a"))
	expect(t, ".#\na", tok(api.FSign, 0, "."), tok(api.FName, 3, "a"))
	expect(t, ".\"a\"", tok(api.FSign, 0, "."), tok(api.FString, 1, "a"))
	expect(t, ".$a", tok(api.FSign, 0, "."), tok(api.FVar, 1, "a"))
	expect(t, ".1", tok(api.FSign, 0, "."), num(1, 1))
	expect(t, ".[]", tok(api.FSign, 0, "."), tok(api.FSign, 1, "["), tok(api.FSign, 2, "]"))
	expect(t, "..a", tok(api.FSign, 0, ".."), tok(api.FName, 2, "a"))
	expect(t, "...a", tok(api.FSign, 0, ".."), tok(api.FField, 2, "a"))
	expect(t, "....", tok(api.FSign, 0, ".."), tok(api.FSign, 2, ".."))
	expect(t, ".a.b..c", tok(api.FField, 0, "a"), tok(api.FField, 2, "b"), tok(api.FSign, 4, ".."), tok(api.FName, 6, "c"))
	expect(t, "._", tok(api.FField, 0, "_"))
}

// listed are the signs as the chapter lists them.
func listed() []string {
	return strings.Fields("|= += -= *= /= %= // == != <= >= .. . | , ; : ( ) [ ] { } + - * / % < > = ?")
}

func TestP10_1Signs(t *testing.T) {
	for _, s := range listed() {
		expectOne(t, s, tok(api.FSign, 0, s))
		expect(t, "a"+s+" 1", tok(api.FName, 0, "a"), tok(api.FSign, 1, s), num(len(s)+2, 1))
	}
	for _, x := range []struct {
		s     string
		parts []string
	}{
		{"===", []string{"==", "="}}, {"====", []string{"==", "=="}}, {"//=", []string{"//", "="}}, {"///", []string{"//", "/"}}, {"///=", []string{"//", "/="}}, {"?//", []string{"?", "//"}}, {"||=", []string{"|", "|="}}, {"|==", []string{"|=", "="}},
		{"<=>", []string{"<=", ">"}}, {"=<", []string{"=", "<"}}, {"=>", []string{"=", ">"}}, {">>=", []string{">", ">="}}, {"<>", []string{"<", ">"}}, {"=!=", []string{"=", "!="}}, {"!==", []string{"!=", "="}}, {"--=", []string{"-", "-="}}, {"**", []string{"*", "*"}}, {":=", []string{":", "="}}, {"?=", []string{"?", "="}}, {"..=", []string{"..", "="}}, {".=", []string{".", "="}},
		{"([{}])", []string{"(", "[", "{", "}", "]", ")"}},
	} {
		var want []api.FToken
		at := 0
		for _, part := range x.parts {
			want = append(want, tok(api.FSign, at, part))
			at += len(part)
		}
		expect(t, x.s, want...)
	}
	for _, s := range []string{"!", "! =", "!!=", "&", "&&", "^", "~", "@", "@base64", "'a'", "`", "\\", "\\(", "\x00", "\x7f", "\v", "\f", "\u00a0", "\ufeff", "≤"} {
		expectErrorAnywhere(t, s, 0, api.ErrSyntax)
	}
}

func TestP10_1Numbers(t *testing.T) {
	for s, n := range map[string]int64{"0": 0, "1": 1, "9": 9, "10": 10, "1234567890": 1234567890, "9223372036854775807": math.MaxInt64, "9223372036854775799": math.MaxInt64 - 8, "1000000000000000000": 1e18} {
		expectOne(t, s, num(0, n))
		size := len(s)
		expect(t, s+".", num(0, n), tok(api.FSign, size, "."))
		expect(t, s+"..", num(0, n), tok(api.FSign, size, ".."))
		expect(t, s+"..1", num(0, n), tok(api.FSign, size, ".."), num(size+2, 1))
		expect(t, s+". 1", num(0, n), tok(api.FSign, size, "."), num(size+2, 1))
		expect(t, s+" .1", num(0, n), tok(api.FSign, size+1, "."), num(size+2, 1))
		expect(t, s+".e1", num(0, n), tok(api.FField, size, "e1"))
		expect(t, s+"._", num(0, n), tok(api.FField, size, "_"))
		expect(t, s+"\"\"", num(0, n), tok(api.FString, size, ""))
		expect(t, s+"$a", num(0, n), tok(api.FVar, size, "a"))
		expect(t, s+" a", num(0, n), tok(api.FName, size+1, "a"))
		expect(t, s+"#a", num(0, n))
		expect(t, s+" 0", num(0, n), num(size+1, 0))
		expect(t, "-"+s, tok(api.FSign, 0, "-"), num(1, n))
		expect(t, "+"+s+"-"+s, tok(api.FSign, 0, "+"), num(1, n), tok(api.FSign, size+1, "-"), num(size+2, n))
		expectError(t, s+"é", size, api.ErrSyntax)
		expectError(t, s+"!", size, api.ErrSyntax)
		expectError(t, s+"\xff", size, api.ErrSyntax)
	}
}

func TestP10_1ErrorsOfNumbers(t *testing.T) {
	for i := range len(letters) {
		for _, s := range []string{"0", "1", "25", "9223372036854775807", "9223372036854775808"} {
			expectErrorAnywhere(t, s+letters[i:i+1], 0, api.ErrNumber)
		}
	}
	for i := range len(digits) {
		expectErrorAnywhere(t, "0"+digits[i:i+1], 0, api.ErrSyntax)
		expectErrorAnywhere(t, "0."+digits[i:i+1], 0, api.ErrNumber)
		expectErrorAnywhere(t, "12."+digits[i:i+1]+"a", 0, api.ErrNumber)
	}
	for _, s := range []string{"00", "01", "007", "000", "00.5", "01e5", "00a", "0" + strings.Repeat("1", 100), "0" + strings.Repeat("0", 100), "00_", "01\xff"} {
		expectErrorAnywhere(t, s, 0, api.ErrSyntax)
	}
	huge := strings.Repeat("9", 500)
	for _, s := range []string{
		"1.5", "1.0", "0.5", "1e5", "1E5", "0x10", "1_000", "1and", "1.5.5", "1.5e3", "9223372036854775808", "9223372036854775810", "10000000000000000000", "18446744073709551615", "18446744073709551616", "18446744073709551617",
		huge, huge + ".5", huge + "x", huge + ".", huge + " 01", huge + "!",
	} {
		expectErrorAnywhere(t, s, 0, api.ErrNumber)
	}
	expectError(t, "-9223372036854775808", 1, api.ErrNumber)
	expectError(t, "1 2.5", 2, api.ErrNumber)
	expectError(t, "..1.5", 2, api.ErrNumber)
	expectError(t, ".1.5", 1, api.ErrNumber)
}

func TestP10_1Strings(t *testing.T) {
	for s, text := range map[string]string{
		`""`: "", `"a"`: "a", `"é😀"`: "é😀", `" #$! "`: " #$! ", `"\"\\\/\b\f\n\r\t"`: "\"\\/\b\f\n\r\t", `"\u0041\u00e9\ud83d\ude00\u0000"`: "Aé😀\x00", "\"\x7f\"": "\x7f", `"if"`: "if", `"1.5"`: "1.5", `"\\(a)"`: "\\(a)",
	} {
		expectOne(t, s, tok(api.FString, 0, text))
		expect(t, "."+s+s, tok(api.FSign, 0, "."), tok(api.FString, 1, text), tok(api.FString, 1+len(s), text))
		expect(t, s+"a#\"", tok(api.FString, 0, text), tok(api.FName, len(s), "a"))
	}
}

// The errors of strings have the offsets that jsonlex gives them.
func TestP10_1ErrorsOfStrings(t *testing.T) {
	for _, x := range []struct {
		s  string
		at int
		e  api.Errno
	}{
		{`"`, 1, api.ErrTruncated}, {`"ab`, 3, api.ErrTruncated}, {`"a" "b`, 6, api.ErrTruncated}, {`"\"`, 3, api.ErrTruncated}, {`"\`, 2, api.ErrTruncated}, {`"a\u00`, 6, api.ErrTruncated}, {`"\ud83d`, 7, api.ErrTruncated}, {`"#`, 2, api.ErrTruncated},
		{"\"a\nb\"", 2, api.ErrSyntax}, {"\"\x1f", 1, api.ErrSyntax}, {`"a\x"`, 2, api.ErrSyntax}, {`"\(a)"`, 1, api.ErrSyntax}, {`"\ude00"`, 1, api.ErrSyntax}, {`"\ud83d"`, 1, api.ErrSyntax}, {"\"#\n\"", 2, api.ErrSyntax},
		{"\"\xff\"", 1, api.ErrUTF8}, {"\"aé\xc3\"", 4, api.ErrUTF8}, {"\"\xed\xa0\x80", 1, api.ErrUTF8},
	} {
		expectErrorAnywhere(t, x.s, x.at, x.e)
	}
}

func TestP10_1BlanksAndComments(t *testing.T) {
	a, b := tok(api.FName, 0, "a"), tok(api.FName, 0, "b")
	for _, between := range []string{" ", "\t", "\n", "\r", " \t\r\n ", "#\n", "# b\n", "##\n", "#\n#\n", " # x\r\n\t#y\n ", "#\"\n", "#\r#\r\n", "#\\\n", "#\xff\x00\n", "#$ !é\n"} {
		b.At = 1 + len(between)
		expect(t, "a"+between+"b", a, b)
		b.At += len(between)
		a.At = len(between)
		expect(t, between+"a"+between+"b"+between, a, b)
		a.At = 0
	}
	// A comment ends before a line feed only.
	for _, between := range []string{"#", "# ", "#\r", "#\t", "#\v", "#\u2028", "\n#", "#\x00"} {
		expect(t, "a"+between+"b", a)
	}
	for _, s := range []string{"\v", "\f", "\x00", "\u0085", "\u00a0", "\u2028", "\ufeff", "\x1f", "\x7f"} {
		expectError(t, "a"+s+"b", 1, api.ErrSyntax)
	}
	expect(t, "/#/\n/", tok(api.FSign, 0, "/"), tok(api.FSign, 4, "/"))
	expect(t, "1#.5\n.5", num(0, 1), tok(api.FSign, 5, "."), num(6, 5))
}

// Of several errors the first one from the left counts.
func TestP10_1FirstFromTheLeft(t *testing.T) {
	long := strings.Repeat("x", api.MaxName+1)
	for _, x := range []struct {
		s  string
		at int
		e  api.Errno
	}{
		{"! 1.5", 0, api.ErrSyntax}, {"1.5 !", 0, api.ErrNumber}, {"$ " + long, 0, api.ErrSyntax}, {long + " $", 0, api.ErrLimit}, {"01 1.5", 0, api.ErrSyntax}, {"1.5 01", 0, api.ErrNumber}, {"\"\xff", 1, api.ErrUTF8}, {"1a\"", 0, api.ErrNumber}, {"\"1a", 3, api.ErrTruncated},
		{"$" + long + "!", 0, api.ErrLimit}, {"\"\\x\" 1.5", 1, api.ErrSyntax}, {"1.5 \"\\x\"", 0, api.ErrNumber}, {"1" + long, 0, api.ErrNumber}, {"0" + long, 0, api.ErrNumber}, {"00" + long, 0, api.ErrSyntax}, {"é\"", 0, api.ErrSyntax},
	} {
		expectErrorAnywhere(t, x.s, x.at, x.e)
	}
}

func TestP10_2Keyword(t *testing.T) {
	for _, s := range words() {
		if !Keyword(s) {
			t.Errorf("%s is no keyword", s)
		}
		for _, other := range []string{" " + s, s + " ", "$" + s, "." + s, s + "\n", s + "\x00", s[:len(s)-1], s[1:], strings.Join(words(), " ")} {
			if Keyword(other) {
				t.Errorf("%q is a keyword", other)
			}
		}
	}
	for _, s := range append(names(), "", " ", "1", "é", "\xff", "andor", "notand", "import", "include", "__loc__", strings.Repeat("and", 1<<16)) {
		if Keyword(s) {
			t.Errorf("%s is a keyword", brief(s))
		}
	}
}

func TestP10_2Name(t *testing.T) {
	for _, s := range append(names(), words()...) {
		if !Name(s) {
			t.Errorf("%s is no name", s)
		}
	}
	for _, s := range []string{"", " ", "1", "1a", "9_", " a", "a ", "a b", "a\n", "\na", "$a", ".a", "a.b", "a-b", "a?", "a#", "#", "é", "aé", "éa", "a\x00", "\x00", "\xff", "a\xff", "\"a\"", "a\u0301", "ａ", "-", "."} {
		if Name(s) {
			t.Errorf("%q is a name", s)
		}
	}
	for i := range 256 {
		b := string([]byte{byte(i)})
		first := strings.Contains(letters, b)
		later := strings.Contains(letters+digits, b)
		if Name(b) != first || Name(b+"a") != first || Name("a"+b) != later || Name("_9"+b+"Z") != later || Keyword(b) {
			t.Errorf("Name or Keyword with the byte %q", b)
		}
	}
}
