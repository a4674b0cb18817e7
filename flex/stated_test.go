package flex

import (
	"math/big"
	"math/rand"
	"regexp"
	"strings"
	"testing"

	"ndjq/api"
	"ndjq/jsonlex"
)

// pattern is a kind of tokens in the second statement of the chapter. The group of the expression is the text of the token.
type pattern struct {
	kind int
	form *regexp.Regexp
}

var (
	between  = regexp.MustCompile(`^(?:[ \t\n\r]|#[^\n]*)*`)
	patterns = []pattern{
		{api.FKey, regexp.MustCompile(`^(and|as|break|catch|def|elif|else|end|false|foreach|if|label|null|or|reduce|then|true|try)(?:[^0-9A-Za-z_]|$)`)},
		{api.FName, regexp.MustCompile(`^([A-Za-z_][0-9A-Za-z_]*)`)},
		{api.FVar, regexp.MustCompile(`^\$([A-Za-z_][0-9A-Za-z_]*)`)},
		{api.FField, regexp.MustCompile(`^\.([A-Za-z_][0-9A-Za-z_]*)`)},
		{api.FNumber, regexp.MustCompile(`^([0-9]+)`)},
		{api.FString, regexp.MustCompile(`^(")`)},
		{api.FSign, regexp.MustCompile(`^([-|+*/%=!<>]=|//|\.\.|[.|,;:()[\]{}+*/%<>=?-])`)},
	}
	ending = regexp.MustCompile(`^(?:[A-Za-z_]|\.[0-9])`)
)

// statedToken returns the token at the beginning of s, which has no blanks there, and its size, or an error and its offset.
func statedToken(s string) (api.FToken, int, api.Errno) {
	for _, p := range patterns {
		found := p.form.FindStringSubmatchIndex(s)
		if found == nil {
			continue
		}
		size, text := found[3], s[found[2]:found[3]]
		switch {
		case p.kind == api.FNumber:
			return statedNumber(text, s[size:])
		case p.kind == api.FString:
			token, to, e := jsonlex.Next(s, 0)
			if e != api.OK {
				return api.FToken{}, to, e
			}
			return api.FToken{Kind: api.FString, Text: token.Str}, to, api.OK
		case p.kind != api.FSign && len(text) > api.MaxName:
			return api.FToken{}, 0, api.ErrLimit
		}
		return api.FToken{Kind: p.kind, Text: text}, size, api.OK
	}
	return api.FToken{}, 0, api.ErrSyntax
}

func statedNumber(text, behind string) (api.FToken, int, api.Errno) {
	n, _ := new(big.Int).SetString(text, 10)
	switch {
	case n.String() != text:
		return api.FToken{}, 0, api.ErrSyntax
	case ending.MatchString(behind) || !n.IsInt64():
		return api.FToken{}, 0, api.ErrNumber
	}
	return api.FToken{Kind: api.FNumber, Int: n.Int64()}, len(text), api.OK
}

// stated is a second statement of P10.1. It returns also the parts of s of which the tokens consist.
func stated(s string) (outcome, []string) {
	if len(s) > api.MaxText {
		return outcome{e: api.ErrLimit}, nil
	}
	var tokens []api.FToken
	var parts []string
	for at := 0; ; {
		at += len(between.FindString(s[at:]))
		if at == len(s) {
			return outcome{tokens: append(tokens, api.FToken{Kind: api.FEnd, At: at})}, parts
		}
		if len(tokens) == api.MaxTokens {
			return outcome{at: at, e: api.ErrLimit}, nil
		}
		token, size, e := statedToken(s[at:])
		if e != api.OK {
			return outcome{at: at + size, e: e}, nil
		}
		token.At = at
		tokens = append(tokens, token)
		parts = append(parts, s[at:at+size])
		at += size
	}
}

// expectStated expects what the second statement says, and the consequence of the chapter.
func expectStated(t *testing.T, s string) {
	t.Helper()
	want, parts := stated(s)
	if got := lex(s); !got.equal(want) {
		t.Errorf("Lex(%s) = %v; expected %v", brief(s), got, want)
		return
	}
	if want.e == api.OK {
		expectJoined(t, want.tokens, parts)
	}
}

// expectJoined expects the same tokens from their parts, joined with spaces.
func expectJoined(t *testing.T, tokens []api.FToken, parts []string) {
	t.Helper()
	joined := strings.Join(parts, " ")
	if len(joined) > api.MaxText {
		return
	}
	at := 0
	for i, part := range parts {
		tokens[i].At = at
		at += len(part) + 1
	}
	tokens[len(parts)].At = len(joined)
	expectOutcome(t, joined, outcome{tokens: tokens})
}

// expectAll compares Lex with the second statement for all texts that consist of a beginning and at most n of the parts.
func expectAll(t *testing.T, beginning string, parts []string, n int) {
	t.Helper()
	expectStated(t, beginning)
	if n == 0 || t.Failed() {
		return
	}
	for _, part := range parts {
		expectAll(t, beginning+part, parts, n-1)
	}
}

func TestP10_1AllShortTexts(t *testing.T) {
	bytes := func(s string) []string { return strings.Split(s, "") }
	every := make([]string, 256)
	for i := range every {
		every[i] = string([]byte{byte(i)})
	}
	expectAll(t, "", every, 2)
	expectAll(t, ".", every, 2)
	expectAll(t, "$", every, 2)
	expectAll(t, "1", every, 2)
	expectAll(t, "", bytes("|+-*/%=!<>.?:,"), 4)
	expectAll(t, "", bytes(".$a_01 #\n"), 5)
	expectAll(t, "", bytes("0129.eE_x-"), 4)
	expectAll(t, "922337203685477", bytes("05789.a"), 5)
	expectAll(t, "", append(bytes("\"\\#\nua0.$"), "\xff", "é"), 4)
	expectAll(t, "", append(words(), " ", "$", ".", "_", "0", "#", "\n"), 3)
	expectAll(t, "a", listed(), 3)
	expectAll(t, "", []string{"a", "if", "$b", ".c", "1", "0", "\"\"", "|=", "..", ".", "/", "\t", "#\r", "\n"}, 4)
}

// random returns a text of n parts.
func random(r *rand.Rand, parts []string, n int) string {
	var b strings.Builder
	for range n {
		b.WriteString(parts[r.Intn(len(parts))])
	}
	return b.String()
}

func TestP10_1RandomTexts(t *testing.T) {
	r := rand.New(rand.NewSource(10))
	parts := append(append(append(listed(), words()...), names()...), " ", "\n", "\t ", "#x\n", "$a", ".b", "$if", ".then", "0", "1", "42", "9223372036854775807", `"a"`, `"\u00e9\n"`, `"#"`)
	bad := append(append([]string{}, parts...), "!", "$", "\"", "\xff", "é", "01", "1.5", "9223372036854775808", strings.Repeat("x", api.MaxName+1))
	for range 20000 {
		expectStated(t, random(r, parts, r.Intn(12)))
		expectStated(t, random(r, bad, r.Intn(30)))
		expectStated(t, strings.Join(strings.Split(random(r, parts, r.Intn(12)), ""), " "))
	}
	for range 300 {
		expectStated(t, random(r, listed(), api.MaxTokens-50+r.Intn(400)))
		expectStated(t, random(r, []string{".a", "1 ", "?", " $b "}, api.MaxTokens-3+r.Intn(6)))
		expectStated(t, random(r, []string{"a", "B", "0", "_", "if", "n", "d"}, api.MaxName-6+r.Intn(8)))
	}
}

// expectNameLikeLex expects that a text is a name if and only if it is a token FName or FKey, and that a dollar sign before it makes it a token FVar.
func expectNameLikeLex(t *testing.T, s string) {
	t.Helper()
	got, variable := lex(s), lex("$"+s)
	isName := len(got.tokens) == 2 && got.tokens[0] == tok(api.FName, 0, s)
	isKeyword := len(got.tokens) == 2 && got.tokens[0] == tok(api.FKey, 0, s)
	isVariable := len(variable.tokens) == 2 && variable.tokens[0] == tok(api.FVar, 0, s)
	if Name(s) != (isName || isKeyword) || Name(s) != isVariable || Keyword(s) != isKeyword {
		t.Errorf("Name(%s) is %v, Keyword %v; Lex yields %v and %v", brief(s), Name(s), Keyword(s), got, variable)
	}
}

func TestP10_2NamesAreThoseOfLex(t *testing.T) {
	for _, s := range append(append(words(), names()...), "", strings.Repeat("x", api.MaxName+1)) {
		expectNameLikeLex(t, s)
		for i := range 256 {
			b := string([]byte{byte(i)})
			expectNameLikeLex(t, s+b)
			expectNameLikeLex(t, b+s)
		}
	}
}

// FuzzLex runs on its seeds with go test, and goes on from them with go test -fuzz.
func FuzzLex(f *testing.F) {
	for _, s := range append(append(append(units(), words()...), names()...), "def f($a): # x\n .[1:] |= \"\\u00e9\" // -20;\r\n.a.b?", "$ x", "1.5", "1..2", "...a", "01", "\"\\ud83d", "!", "é\xff") {
		f.Add(s)
	}
	f.Fuzz(func(t *testing.T, s string) {
		expectStated(t, s)
		expectNameLikeLex(t, s)
	})
}
