package fparse

import (
	"math/rand"
	"slices"
	"strings"
	"testing"

	"ndjq/api"
	"ndjq/flex"
)

// grammar is the grammar as the chapter states it, except that a keyword as the key of an entry is written KEYWORD.
const grammar = `
    filter  = comma [ "|" filter ]
    comma   = update { "," update }
    update  = alt [ ( "=" | "|=" | "+=" | "-=" | "*=" | "/=" | "%=" ) alt ]
    alt     = or [ "//" alt ]
    or      = and { "or" and }
    and     = cmp { "and" cmp }
    cmp     = sum [ ( "==" | "!=" | "<" | "<=" | ">" | ">=" ) sum ]
    sum     = product { ( "+" | "-" ) product }
    product = unary { ( "*" | "/" | "%" ) unary }
    unary   = "-" unary | operand
    operand = postfix [ "as" VAR "|" filter ]
            | "label" VAR "|" filter
            | "def" NAME [ "(" param { ";" param } ")" ] ":" filter ";" filter
    param   = NAME | VAR
    postfix = primary { suffix }
    suffix  = FIELD | "." STRING | "[" "]" | "[" filter "]" | "[" filter ":" [ filter ] "]" | "[" ":" filter "]" | "?"
    primary = "." | "." STRING | FIELD | ".." | NUMBER | STRING | "true" | "false" | "null" | VAR
            | "(" filter ")" | "[" [ filter ] "]" | "{" [ entry { "," entry } ] "}"
            | "if" filter "then" filter { "elif" filter "then" filter } [ "else" filter ] "end"
            | "try" postfix [ "catch" postfix ]
            | "reduce" postfix "as" VAR "(" filter ";" filter ")"
            | "foreach" postfix "as" VAR "(" filter ";" filter [ ";" filter ] ")"
            | "break" VAR | NAME [ "(" filter { ";" filter } ")" ]
    entry   = ( NAME | KEYWORD | STRING ) [ ":" alt ] | VAR | "(" filter ")" ":" alt
`

// form is a part of a rule: a word of the grammar, or, by its sign, a choice "|", a sequence "&", an optional part "[" or a repeated one "{".
type form struct {
	sign  string
	word  string
	forms []form
}

// reader reads the right sides of rules.
type reader struct{ words []string }

func (r *reader) next() string {
	if len(r.words) == 0 {
		return ""
	}
	return r.words[0]
}

func (r *reader) choice() form {
	f := form{sign: "|", forms: []form{r.sequence()}}
	for r.next() == "|" {
		r.words = r.words[1:]
		f.forms = append(f.forms, r.sequence())
	}
	return f
}

func (r *reader) sequence() form {
	f := form{sign: "&"}
	for r.next() != "" && !strings.Contains("|)]}", r.next()) {
		word := r.next()
		r.words = r.words[1:]
		if !strings.Contains("([{", word) {
			f.forms = append(f.forms, form{word: word})
			continue
		}
		inner := r.choice()
		r.words = r.words[1:]
		f.forms = append(f.forms, form{sign: word, forms: []form{inner}})
	}
	return f
}

// rules returns the right sides of the rules by their names.
func rules() map[string]form {
	words := strings.Fields(grammar)
	m := map[string]form{}
	for len(words) > 0 {
		size := 2
		for size < len(words) && (size+1 == len(words) || words[size+1] != "=") {
			size++
		}
		r := reader{words[2:size]}
		m[words[0]] = r.choice()
		words = words[size:]
	}
	return m
}

// recognizer applies the rules to tokens. It tries all choices, and so needs no rule about what is taken by which token: the longest choice counts.
type recognizer struct {
	rules  map[string]form
	tokens []api.FToken
	failed int // the last token that could not follow those before it
	known  map[place]int
}

type place struct {
	rule string
	at   int
}

// rule returns the number of the token behind those of a rule, or -1.
func (r *recognizer) rule(name string, at int) int {
	key := place{name, at}
	end, ok := r.known[key]
	if !ok {
		end = r.match(r.rules[name], at)
		r.known[key] = end
	}
	return end
}

func (r *recognizer) match(f form, at int) int {
	switch f.sign {
	case "":
		return r.word(f.word, at)
	case "|":
		longest := -1
		for _, choice := range f.forms {
			longest = max(longest, r.match(choice, at))
		}
		return longest
	case "[":
		return max(at, r.match(f.forms[0], at))
	case "{":
		for end := at; end >= 0; end = r.match(f.forms[0], at) {
			at = end
		}
		return at
	case "(":
		return r.match(f.forms[0], at)
	}
	for _, part := range f.forms {
		if at = r.match(part, at); at < 0 {
			return -1
		}
	}
	return at
}

func (r *recognizer) word(word string, at int) int {
	kinds := map[string]int{"VAR": api.FVar, "FIELD": api.FField, "NAME": api.FName, "STRING": api.FString, "NUMBER": api.FNumber, "KEYWORD": api.FKey}
	token := r.tokens[at]
	kind, isKind := kinds[word]
	switch {
	case !isKind && word[0] != '"':
		return r.rule(word, at)
	case isKind && token.Kind == kind, !isKind && (token.Kind == api.FSign || token.Kind == api.FKey) && word == "\""+token.Text+"\"":
		return at + 1
	}
	r.failed = max(r.failed, at)
	return -1
}

// longDefinition returns the offset of the name of the first definition with too many parameters.
func longDefinition(tokens []api.FToken) (int, bool) {
	for i, token := range tokens {
		if token.Kind != api.FKey || token.Text != "def" || tokens[i+1].Kind != api.FName || tokens[i+2].Text != "(" {
			continue
		}
		// Behind the parenthesis, parameters and signs take turns.
		size := slices.IndexFunc(tokens[i+3:], func(t api.FToken) bool { return t.Kind == api.FSign && t.Text == ")" })
		if (size+1)/2 > api.MaxParams {
			return tokens[i+1].At, true
		}
	}
	return 0, false
}

// stated returns the offset and the error of Parse by the grammar.
func stated(grammar map[string]form, s string) (int, api.Errno) {
	tokens, at, e := flex.Lex(s)
	if e != api.OK {
		return at, e
	}
	r := recognizer{rules: grammar, tokens: tokens, known: map[place]int{}}
	end := r.rule("filter", 0)
	if end == len(tokens)-1 {
		if at, long := longDefinition(tokens); long {
			return at, api.ErrLimit
		}
		return 0, api.OK
	}
	token := tokens[max(r.failed, end)]
	if token.Kind == api.FEnd {
		return token.At, api.ErrTruncated
	}
	return token.At, api.ErrSyntax
}

// expectStated expects the offset and the error that the grammar yields.
func expectStated(t *testing.T, grammar map[string]form, s string) {
	t.Helper()
	f, at, e := Parse(s)
	if wantAt, want := stated(grammar, s); e != want || at != wantAt || (e == api.OK) == equal(f, api.Filter{}) {
		t.Errorf("Parse(%s) = %s, %d, error %d; expected %d, error %d", brief(s), brief(show(f)), at, e, wantAt, want)
	}
}

func TestGrammarIsComplete(t *testing.T) {
	m := rules()
	if len(m) != 16 {
		t.Fatalf("%d rules", len(m))
	}
	used := map[string]bool{"filter": true}
	for _, word := range strings.Fields(grammar) {
		_, isRule := m[word]
		used[word] = used[word] || isRule
	}
	for name := range m {
		if !used[name] {
			t.Errorf("the rule %s is not used", name)
		}
	}
}

// expectAll compares Parse with the grammar for all texts of a beginning and at most n of the words. What cannot go on is not continued.
func expectAll(t *testing.T, m map[string]form, beginning string, words []string, n int) {
	t.Helper()
	expectStated(t, m, beginning)
	if _, _, e := Parse(beginning); n == 0 || t.Failed() || e == api.ErrSyntax {
		return
	}
	for _, word := range words {
		expectAll(t, m, beginning+" "+word, words, n-1)
	}
}

// tokens are texts of one token each: all signs and keywords, and some of the other kinds.
func tokens() []string {
	l := []string{"f", "inputs", "$x", ".a", "1", "\"b\""}
	l = append(l, strings.Fields("|= += -= *= /= %= // == != <= >= .. . | , ; : ( ) [ ] { } + - * / % < > = ?")...)
	return append(l, strings.Fields("and as break catch def elif else end false foreach if label null or reduce then true try")...)
}

func TestP11_1AllShortTexts(t *testing.T) {
	m := rules()
	expectAll(t, m, "", tokens(), 3)
	few := strings.Fields(`f $x .a "b" . [ ] ( ) { } : ; , | + ? as try`)
	expectAll(t, m, "", few, 4)
	for _, beginning := range []string{"{ a", "{ a :", "{ $x ,", "{ ( 1 ) :", ". [", ". [ 1", ". [ 1 :", ". [ :", "f ( 1", "[ 1", ". as $x |", "label $x |", "try 1", "try 1 catch", "def f", "def f (", "def f ( a", "def f : 1", "def f : 1 ;", "if 1", "if 1 then 2", "if 1 then 2 elif 3 then 4", "if 1 then 2 else", "reduce .", "reduce . as $x (", "foreach . as $x ( 1 ; 2", "foreach . as $x ( 1 ; 2 ; 3", "1 = 2", "1 == 2", "1 // 2", "- 1", "( 1", "1 . \"a\"", ". \"a\"", "break"} {
		expectAll(t, m, beginning, tokens(), 2)
		expectAll(t, m, beginning, few, 3)
	}
	expectAll(t, m, "", strings.Fields("1 = |= // or and == < + - * , | ( )"), 5)
	expectAll(t, m, "try", strings.Fields("try catch 1 . ? .a as $x |"), 5)
	expectAll(t, m, ".", strings.Fields(`[ ] : 1 , "a"`), 6)
	expectAll(t, m, "{", strings.Fields(`a if "b" $x ( ) : , } 1`), 6)
	expectAll(t, m, "def f", strings.Fields(`( ) a $b ; : 1 def f`), 6)
	expectAll(t, m, "def f ( a ; $b ; c ; $d ; e ; $f ; g", strings.Fields(`) a $b ; : 1`), 8)
	expectAll(t, m, "if 1 then 2", strings.Fields(`elif else end then 1 if`), 6)
	expectAll(t, m, "foreach .", strings.Fields(`as $x ( ) 1 ; |`), 7)
	expectAll(t, m, "reduce .", strings.Fields(`as $x ( ) 1 ; |`), 7)
}

// mixed returns n random tokens.
func mixed(r *rand.Rand, words []string, n int) string {
	var b strings.Builder
	for range n {
		b.WriteString(words[r.Intn(len(words))])
		b.WriteString(" ")
	}
	return b.String()
}

func TestP11_1RandomTokens(t *testing.T) {
	m := rules()
	r := rand.New(rand.NewSource(11))
	for range 20000 {
		expectStated(t, m, mixed(r, tokens(), r.Intn(8)))
		expectStated(t, m, mixed(r, []string{".", ".a", "1", "f", "(", ")", "[", "]", ",", "|", "+", "?", "-", "$x"}, r.Intn(12)))
	}
}

// continued returns a text of at most n random words, none of which is an error behind those before it.
func continued(r *rand.Rand, words []string, n int) string {
	s := ""
	for range n {
		next := s + words[r.Intn(len(words))] + " "
		if _, _, e := Parse(next); e != api.ErrSyntax {
			s = next
		}
	}
	return s
}

func TestP11_1RandomBeginnings(t *testing.T) {
	m := rules()
	r := rand.New(rand.NewSource(12))
	for range 500 {
		s := continued(r, tokens(), r.Intn(300))
		expectStated(t, m, s)
		for _, word := range tokens() {
			expectStated(t, m, s+word)
		}
	}
}
