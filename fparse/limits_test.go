package fparse

import (
	"strings"
	"testing"

	"ndjq/api"
	"ndjq/flex"
)

// params returns n parameters.
func params(n int) []string {
	l := make([]string, n)
	for i := range l {
		l[i] = []string{"a", "$b", "c", "$if", "inputs"}[i%5]
	}
	return l
}

// head is a definition with n parameters, up to its colon.
func head(n int) string {
	return "def f(" + strings.Join(params(n), "; ") + "):"
}

func TestP11_1LimitOfParams(t *testing.T) {
	for n := 1; n <= api.MaxParams; n++ {
		expect(t, head(n)+" 1; 2", def("f", strings.Join(params(n), " "), one, two))
	}
	for n := api.MaxParams + 1; n < 60; n++ {
		expectError(t, head(n)+" 1; 2", 4, api.ErrLimit)
		expectError(t, "1 |\n"+head(n)+" 1; 2", 8, api.ErrLimit)
		expectError(t, "def #c\n  f("+strings.Join(params(n), ";")+") : 1; 2", 9, api.ErrLimit)
	}
	expectError(t, head(500)+" 1; 2", 4, api.ErrLimit)
	// Calls have no such limit.
	many := make([]api.Filter, 500)
	for i := range many {
		many[i] = one
	}
	expect(t, "f(1"+strings.Repeat("; 1", 499)+")", call("f", many...))
	for _, s := range []string{"(%s 1; 2)", "[%s 1; 2]", "-%s 1; 2", "1 + %s 1; 2", ". as $x | %s 1; 2", "label $x | %s 1; 2", "f(1; %s 1; 2)", ".[%s 1; 2]", ".[1:%s 1; 2]", ".[%s 1; 2:3]", ".[:%s 1; 2]", "{(%s 1; 2): 3}", "{a: %s 1; 2}", "if %s 1; 2 then 3 end", "if 1 then %s 2; 3 end", "if 1 then 2 elif 3 then 4 else %s 5; 6 end", "try (%s 1; 2)", "reduce . as $x (%s 1; 2; 3)", "foreach . as $x (1; 2; %s 3; 4)", "def g: %s 1; 2; 3", "def g: 1; %s 2; 3", "def g(a; $b): 1; %s 2; 3", "1 // %s 2; 3", "1 = %s 2; 3"} {
		if _, _, e := Parse(strings.ReplaceAll(s, "%s", head(api.MaxParams))); e != api.OK {
			t.Errorf("Parse(%s) with as many parameters as are permitted: error %d", s, e)
		}
		expectError(t, strings.ReplaceAll(s, "%s", head(api.MaxParams+1)), strings.Index(s, "%s")+4, api.ErrLimit)
	}
}

// Of several definitions with too many parameters, the first name counts.
func TestP11_1FirstDefinition(t *testing.T) {
	ok, long := head(api.MaxParams), head(api.MaxParams+1)
	expectError(t, long+" 1; "+long+" 2; 3", 4, api.ErrLimit)
	expectError(t, long+long+" 1; 2; 3", 4, api.ErrLimit)
	expectError(t, long+" 1; "+ok+" 2; 3", 4, api.ErrLimit)
	expectError(t, ok+" 1; "+long+" 2; 3", len(ok)+8, api.ErrLimit)
	expectError(t, ok+long+" 1; 2; "+long+" 3; 4", len(ok)+4, api.ErrLimit)
	expectError(t, "("+long+" 1; 2), ("+long+" 3; 4)", 5, api.ErrLimit)
	expectError(t, "("+ok+" 1; 2), ("+head(30)+" 3; 4), ("+long+" 3; 4)", len(ok)+14, api.ErrLimit)
}

// The limit counts only in a filter without an error of the grammar.
func TestP11_1LimitIsLast(t *testing.T) {
	long := head(api.MaxParams + 1)
	for _, behind := range []string{"", " 1", " 1;", " (", " 1; 2 |", " 1; {a:", " 1; \"a\" as $x |"} {
		expectError(t, long+behind, len(long+behind), api.ErrTruncated)
	}
	for _, behind := range []string{" ^)", " ^; 1", " 1^)", " 1; ^;", " 1; 2 ^3", " 1; 2 ^)", " 1; (2 ^]", " 1; 2 | ^, 3", " 1; 2 < 3 < 4 ^< 5"} {
		s := strings.Replace(long+behind, "^", "", 1)
		expectError(t, s, strings.Index(long+behind, "^"), api.ErrSyntax)
	}
	expectError(t, "def f("+strings.Join(params(20), ";")+";): 1; 2", len("def f("+strings.Join(params(20), ";"))+1, api.ErrSyntax)
	expectError(t, "def f("+strings.Join(params(20), ";"), len("def f("+strings.Join(params(20), ";")), api.ErrTruncated)
	expectError(t, long+" 1.5; 2", len(long)+1, api.ErrNumber)
	expectError(t, long+" 1; \"", len(long)+5, api.ErrTruncated)
	expectError(t, long+" 1; 2 !", len(long)+6, api.ErrSyntax)
	expectError(t, long+" 1; "+strings.Repeat("x", api.MaxName+1), len(long)+4, api.ErrLimit)
}

// The errors of flex come before all others, with their offsets.
func TestP11_1ErrorsOfFlex(t *testing.T) {
	for _, bad := range []string{"!", "$", "$ x", "01", "1.5", "1e5", "9223372036854775808", "\"", "\"\\x\"", "\"\xff\"", "\"\\u00", "\"a\nb\"", "\x00", "\xff", "é", "&", strings.Repeat("x", api.MaxName+1), "$" + strings.Repeat("x", api.MaxName+1), "." + strings.Repeat("x", api.MaxName+1), "\"" + strings.Repeat("x", api.MaxString+1) + "\"", strings.Repeat("(", api.MaxTokens+1), strings.Repeat(" ", api.MaxText+1), strings.Repeat(".", 1<<20)} {
		for _, before := range []string{"", ".a | ", ") ", "1 2 ", "[ ", "(1 + ", "{\n", "def f ", "1 < 2 < 3 ", "if ", head(api.MaxParams + 1), head(api.MaxParams+1) + " 1; ", "#c\n"} {
			s := before + bad
			_, at, e := flex.Lex(s)
			if e == api.OK {
				t.Fatalf("Lex(%s) has no error", brief(s))
			}
			expectError(t, s, at, e)
		}
	}
	expectError(t, ") ! 1.5", 2, api.ErrSyntax)
	expectError(t, ") 1.5 !", 2, api.ErrNumber)
	expectError(t, "1 2 \"", 5, api.ErrTruncated)
	expectError(t, "1 ) ", 2, api.ErrSyntax)
}

// The ends of the text are those of the whole text, with blanks and comments.
func TestP11_1OffsetsOfTruncatedTexts(t *testing.T) {
	for _, s := range []string{"", " ", "\n\t\r ", "#", "# c", "#\n", "( ", "(\n#)", "1 + # 2", ".[1:\t", "{a: # }\n", "def f: 1; #", "if 1 then 2 else\r\n", "1 as $x | "} {
		expectError(t, s, len(s), api.ErrTruncated)
	}
	long := "(" + strings.Repeat(" ", api.MaxText-1)
	expectError(t, long, api.MaxText, api.ErrTruncated)
	expect(t, strings.Repeat("\n", api.MaxText-1)+".", dot)
	expectError(t, strings.Repeat("\n", api.MaxText-1)+"|", api.MaxText-1, api.ErrSyntax)
}

// nested returns the node of n beginnings around a leaf.
func nested(n int, leaf api.Filter, wrap func(api.Filter) api.Filter) api.Filter {
	for range n {
		leaf = wrap(leaf)
	}
	return leaf
}

// As many tokens as flex permits are read, however they are nested.
func TestP11_1LimitOfTokens(t *testing.T) {
	for _, x := range []struct {
		before, behind string
		tokens, most   int
		wrap           func(api.Filter) api.Filter
	}{
		{"(", ")", 2, 4000, func(f api.Filter) api.Filter { return f }}, {"[", "]", 2, 4000, func(f api.Filter) api.Filter { return arr(f) }}, {"-", "", 1, 4000, neg}, {"", "?", 1, 4000, func(f api.Filter) api.Filter { return try(f) }}, {"", "[]", 2, 4000, each}, {"", " .a", 1, 4000, func(f api.Filter) api.Filter { return fld(f, "a") }},
		{"f(", ")", 3, 4000, func(f api.Filter) api.Filter { return call("f", f) }}, {"1|", "", 2, 4000, func(f api.Filter) api.Filter { return pipe(one, f) }}, {"1//", "", 2, 4000, func(f api.Filter) api.Filter { return alt(one, f) }}, {"", ",1", 2, 4000, func(f api.Filter) api.Filter { return comma(f, one) }}, {"", "+1", 2, 4000, func(f api.Filter) api.Filter { return bin(f, "+", one) }}, {"", "%1", 2, 4000, func(f api.Filter) api.Filter { return bin(f, "%", one) }},
		{".[", "]", 3, 4000, func(f api.Filter) api.Filter { return at(dot, f) }}, {".[:", "]", 4, 4000, func(f api.Filter) api.Filter { return part(dot, none, f) }}, {"{a:", "}", 4, 4000, func(f api.Filter) api.Filter { return obj(str("a"), f) }}, {"{(", "):1}", 6, 4000, func(f api.Filter) api.Filter { return obj(f, one) }}, {"try ", "", 1, 2000, func(f api.Filter) api.Filter { return try(f) }},
		{"label$x|", "", 3, 1000, func(f api.Filter) api.Filter { return label("x", f) }}, {"f as$x|", "", 4, 1000, func(f api.Filter) api.Filter { return bind(call("f"), "x", f) }}, {"def f:1;", "", 5, 1000, func(f api.Filter) api.Filter { return def("f", "", one, f) }}, {"def f:", ";1", 5, 1000, func(f api.Filter) api.Filter { return def("f", "", f, one) }},
		{"if ", " then 1 end", 4, 500, func(f api.Filter) api.Filter { return cond(f, one, dot) }}, {"if 1 then 2 else ", " end", 6, 300, func(f api.Filter) api.Filter { return cond(one, two, f) }}, {"reduce ", " as$x(1;2)", 8, 400, func(f api.Filter) api.Filter { return red("x", f, one, two) }}, {"foreach . as$x(1;2;", ")", 10, 300, func(f api.Filter) api.Filter { return fore("x", dot, one, two, f) }},
	} {
		n := min((api.MaxTokens-1)/x.tokens, x.most)
		s := strings.Repeat(x.before, n) + "." + strings.Repeat(x.behind, n)
		expect(t, s, nested(n, dot, x.wrap))
		opened := strings.Repeat(x.before, n)
		expectError(t, opened, len(opened), api.ErrTruncated)
		expectError(t, opened+" then"+strings.Repeat(x.behind, n), len(opened)+1, api.ErrSyntax)
	}
	elif := "if 1 then 2" + strings.Repeat(" elif 1 then 2", 500)
	want := nested(501, dot, func(f api.Filter) api.Filter { return cond(one, two, f) })
	expect(t, elif+" end", want)
	expectError(t, elif, len(elif), api.ErrTruncated)
	expectError(t, strings.Repeat(". ", api.MaxTokens), 4, api.ErrSyntax)
	expectError(t, strings.Repeat("(", api.MaxTokens), api.MaxTokens, api.ErrTruncated)
	expectError(t, strings.Repeat("(", api.MaxTokens)+".", api.MaxTokens, api.ErrLimit)
}
