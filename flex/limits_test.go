package flex

import (
	"strings"
	"testing"

	"ndjq/api"
)

// filled returns s with blanks behind it up to a size.
func filled(s string, size int) string {
	return s + strings.Repeat(" ", size-len(s))
}

func TestP10_1LimitOfText(t *testing.T) {
	for _, s := range []string{"", "a", "a.b", ".[]", "#", "#\na", "#é\xff"} {
		want := lex(s).tokens
		want[len(want)-1].At = api.MaxText
		expectOutcome(t, filled(s, api.MaxText), outcome{tokens: want})
		expectError(t, filled(s, api.MaxText+1), 0, api.ErrLimit)
		expectError(t, filled(s, 1<<20), 0, api.ErrLimit)
	}
	// Bytes are counted, and this limit comes before all other errors.
	comment := "#" + strings.Repeat("é", api.MaxText/2-1)
	expect(t, comment+"x")
	expectError(t, comment+"é", 0, api.ErrLimit)
	for _, s := range []string{"!", "$", "01", "1.5", "\"", "\"\xff", "é", strings.Repeat("x", api.MaxName+1), strings.Repeat(".", 2*api.MaxTokens+2)} {
		before := lex(filled(s, api.MaxText))
		if before.e == api.OK || before.tokens != nil {
			t.Errorf("Lex of %s, filled: %v", brief(s), before)
		}
		expectError(t, filled(s, api.MaxText+1), 0, api.ErrLimit)
		expectError(t, strings.Repeat(" ", api.MaxText)+s, 0, api.ErrLimit)
	}
	expectError(t, strings.Repeat(" ", api.MaxText-1)+"!", api.MaxText-1, api.ErrSyntax)
	expect(t, strings.Repeat("\n", api.MaxText-1)+"?", tok(api.FSign, api.MaxText-1, "?"))
}

func TestP10_1LimitOfNames(t *testing.T) {
	full := strings.Repeat("aB_9", api.MaxName/4)
	expectOne(t, full, tok(api.FName, 0, full))
	expectOne(t, "$"+full, tok(api.FVar, 0, full))
	expectOne(t, "."+full, tok(api.FField, 0, full))
	expect(t, full+"."+full+"$"+full, tok(api.FName, 0, full), tok(api.FField, api.MaxName, full), tok(api.FVar, 2*api.MaxName+1, full))
	for _, long := range []string{full + "a", full + "_", full + "1", full + full, strings.Repeat("if", api.MaxName/2+1), strings.Repeat("x", 4000)} {
		for _, before := range []string{"", "$", "."} {
			for _, behind := range []string{"", " ", "!", "\xff", "$"} {
				expectErrorAnywhere(t, before+long+behind, 0, api.ErrLimit)
			}
		}
		// The offset is that of the dollar sign or of the point.
		expectError(t, ".a."+long, 2, api.ErrLimit)
		expectError(t, "..."+long, 2, api.ErrLimit)
		expectError(t, ".."+long, 2, api.ErrLimit)
		expectError(t, "[ $"+long, 2, api.ErrLimit)
	}
}

func TestP10_2LimitOfNames(t *testing.T) {
	full := strings.Repeat("n", api.MaxName)
	if !Name(full) || !Name(full[1:]) || !Name("_"+full[1:]) {
		t.Error("a name within the limit is none")
	}
	for _, s := range []string{full + "n", full + "1", full + "_", full + " ", full + "é", strings.Repeat(full, 1<<16)} {
		if Name(s) {
			t.Errorf("%s is a name", brief(s))
		}
	}
}

func TestP10_1LimitOfStrings(t *testing.T) {
	for part, text := range map[string]string{"x": "x", "é": "é", "😀": "😀", `\n`: "\n"} {
		count := api.MaxString / len(text)
		if 2+count*len(part) > api.MaxText {
			// The value reaches its limit only together with unescaped bytes.
			count = 1000
		}
		rest := api.MaxString - count*len(text)
		s := `"` + strings.Repeat(part, count) + strings.Repeat("y", rest)
		want := strings.Repeat(text, count) + strings.Repeat("y", rest)
		expect(t, s+`"`, tok(api.FString, 0, want))
		expect(t, ". "+s+`".`, tok(api.FSign, 0, "."), tok(api.FString, 2, want), tok(api.FSign, len(s)+3, "."))
		expectErrorAnywhere(t, s+`z"`, 0, api.ErrLimit)
		expectErrorAnywhere(t, s+`z" !`, 0, api.ErrLimit)
		expectErrorAnywhere(t, s+`z`, len(s)+1, api.ErrTruncated)
		expectErrorAnywhere(t, s+"z\x01\"", len(s)+1, api.ErrSyntax)
		expectErrorAnywhere(t, s+"z\xff\"", len(s)+1, api.ErrUTF8)
	}
}

// units are texts of one token each that need no blank between them.
func units() []string {
	return []string{". ", "..", "?", "|=", "$a", ".a", "\"\"", ",\n", "a ", "if ", "0 ", "12\t", "(#\n", "]\r\n"}
}

// The byte that follows the last token that is permitted is not looked at, but for blanks and comments.
func TestP10_1LimitOfTokens(t *testing.T) {
	for _, unit := range units() {
		full := strings.Repeat(unit, api.MaxTokens)
		for _, blanks := range []string{"", "\n", " \t\r\n", "\n#x\n", "#!\n #\n"} {
			s := full + blanks
			expectFull(t, s)
			expectFull(t, s+" ")
			expectFull(t, s+"#a!\"\xff")
			for _, behind := range []string{"x", ".", ".a", "1", "!", "$", "\"", "\xff", "01", "1.5", "é", "\"\\x", "$ ", "!#\n", "\x00"} {
				expectError(t, s+"\n"+behind, len(s)+1, api.ErrLimit)
			}
		}
	}
	long := strings.Repeat("x", api.MaxName+1)
	expectError(t, strings.Repeat("?", api.MaxTokens)+long, api.MaxTokens, api.ErrLimit)
	expectError(t, strings.Repeat("?", api.MaxTokens-1)+"  "+long, api.MaxTokens+1, api.ErrLimit)
	expectError(t, strings.Repeat("?", api.MaxTokens)+"!", api.MaxTokens, api.ErrLimit)
	expectError(t, strings.Repeat("?", api.MaxTokens-1)+"!", api.MaxTokens-1, api.ErrSyntax)
	expectError(t, strings.Repeat("?", api.MaxTokens)+"\"", api.MaxTokens, api.ErrLimit)
	expectError(t, strings.Repeat("?", api.MaxTokens-1)+"\"", api.MaxTokens, api.ErrTruncated)
	expectError(t, "!"+strings.Repeat("?", api.MaxTokens), 0, api.ErrSyntax)
	expectError(t, strings.Repeat("?", api.MaxText), api.MaxTokens, api.ErrLimit)
	expectFull(t, strings.Repeat("|", api.MaxTokens)+"=")
	expectFull(t, strings.Repeat("=", 2*api.MaxTokens))
	expectError(t, strings.Repeat("=", 2*api.MaxTokens+1), 2*api.MaxTokens, api.ErrLimit)
}

// expectFull expects as many tokens as are permitted.
func expectFull(t *testing.T, s string) {
	t.Helper()
	got := lex(s)
	if got.e != api.OK || got.at != 0 || len(got.tokens) != api.MaxTokens+1 || got.tokens[api.MaxTokens] != tok(api.FEnd, len(s), "") {
		t.Errorf("Lex of %s: %v; expected %d tokens", brief(s), got, api.MaxTokens+1)
	}
}
