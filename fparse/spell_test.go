package fparse

import (
	"math/rand"
	"slices"
	"strconv"
	"strings"
	"testing"

	"ndjq/api"
	"ndjq/flex"
	"ndjq/jsonwrite"
)

// What follows a node in a text: what none of its ends can take, another operator, the catch of a try, or a suffix.
const (
	closing = iota
	operating
	catching
	suffixing
)

// Levels of rules, from the one that takes everything.
const (
	levelFilter  = 0
	levelAlt     = 3
	levelUnary   = 9
	levelPostfix = 10
)

// speller writes nodes as tokens. Where several texts have the same node, it chooses one.
type speller struct{ r *rand.Rand }

func (g speller) maybe() bool { return g.r.Intn(3) == 0 }

func words(parts ...[]string) []string { return slices.Concat(parts...) }

func w(s string) []string { return strings.Fields(s) }

// in writes f where a rule of the given level is needed, in parentheses if something could be taken otherwise, and sometimes also if not.
func (g speller) in(f api.Filter, level, follow int) []string {
	if levelOf(f) < level || g.r.Intn(8) == 0 {
		return g.enclosed(f)
	}
	switch f.Op {
	case api.OpLabel, api.OpBind, api.OpDef:
		if follow != closing {
			return g.enclosed(f)
		}
		return g.open(f)
	case api.OpNeg:
		return words(w("-"), g.in(f.Subs[0], levelUnary, follow))
	case api.OpTry:
		return g.try(f, follow)
	}
	if levelOf(f) < levelUnary {
		return g.operation(f, follow)
	}
	return g.primary(f)
}

func (g speller) enclosed(f api.Filter) []string {
	return words(w("("), g.whole(f), w(")"))
}

// whole writes f where it ends before a token that it cannot take.
func (g speller) whole(f api.Filter) []string { return g.in(f, levelFilter, closing) }

func levelOf(f api.Filter) int {
	switch f.Op {
	case api.OpBinary:
		return map[string]int{"+": 7, "-": 7, "*": 8, "/": 8, "%": 8, "==": 6, "!=": 6, "<": 6, "<=": 6, ">": 6, ">=": 6}[f.Text]
	case api.OpNeg, api.OpLabel, api.OpBind, api.OpDef:
		return levelUnary
	}
	if level, ok := map[int]int{api.OpPipe: 0, api.OpComma: 1, api.OpUpdate: 2, api.OpAlt: levelAlt, api.OpOr: 4, api.OpAnd: 5}[f.Op]; ok {
		return level
	}
	return levelPostfix
}

// operation writes two operands with the sign between them, each of the level that the grammar names.
func (g speller) operation(f api.Filter, follow int) []string {
	level := levelOf(f)
	left, right := level, level+1
	switch f.Op {
	case api.OpPipe, api.OpAlt:
		left, right = level+1, level
	case api.OpUpdate:
		left = level + 1
	}
	if level == 6 {
		left = 7
	}
	sign, ok := map[int]string{api.OpPipe: "|", api.OpComma: ",", api.OpAlt: "//", api.OpOr: "or", api.OpAnd: "and"}[f.Op]
	if !ok {
		sign = f.Text
	}
	return words(g.in(f.Subs[0], left, operating), w(sign), g.in(f.Subs[1], right, follow))
}

// open writes the nodes that end with a filter.
func (g speller) open(f api.Filter) []string {
	last := g.whole(f.Subs[len(f.Subs)-1])
	switch f.Op {
	case api.OpLabel:
		return words(w("label $"+f.Text+" |"), last)
	case api.OpBind:
		return words(g.in(f.Subs[0], levelPostfix, operating), w("as $"+f.Text+" |"), last)
	}
	params := []string{}
	if len(f.Params) > 0 {
		params = w("( " + strings.Join(f.Params, " ; ") + " )")
	}
	return words(w("def "+f.Text), params, w(":"), g.whole(f.Subs[0]), w(";"), last)
}

// try writes an OpTry, whose end with try can take a suffix and a catch.
func (g speller) try(f api.Filter, follow int) []string {
	canBeWord := follow != suffixing && (len(f.Subs) == 2 || follow != catching)
	switch {
	case len(f.Subs) == 1 && (!canBeWord || g.maybe()):
		return words(g.in(f.Subs[0], levelPostfix, suffixing), w("?"))
	case !canBeWord:
		return g.enclosed(f)
	case len(f.Subs) == 1:
		return words(w("try"), g.in(f.Subs[0], levelPostfix, follow))
	}
	return words(w("try"), g.in(f.Subs[0], levelPostfix, catching), w("catch"), g.in(f.Subs[1], levelPostfix, follow))
}

// primary writes the nodes that end with a token which takes nothing.
func (g speller) primary(f api.Filter) []string {
	switch f.Op {
	case api.OpIdentity:
		return w(".")
	case api.OpRecurse:
		return w("..")
	case api.OpInputs:
		return w("inputs")
	case api.OpVar:
		return w("$" + f.Text)
	case api.OpBreak:
		return w("break $" + f.Text)
	case api.OpLiteral:
		return []string{jsonwrite.Text(f.Value)}
	case api.OpField:
		return words(g.base(f), g.field(f.Text))
	case api.OpIndex, api.OpSlice, api.OpIterate:
		return words(g.in(f.Subs[0], levelPostfix, suffixing), w("["), g.bracket(f), w("]"))
	case api.OpArray:
		return words(w("["), g.list(f.Subs, ";"), w("]"))
	case api.OpCall:
		if len(f.Subs) == 0 {
			return w(f.Text)
		}
		return words(w(f.Text+" ("), g.list(f.Subs, ";"), w(")"))
	case api.OpObject:
		return words(w("{"), g.entries(f.Subs), w("}"))
	case api.OpIf:
		return words(w("if"), g.condition(f))
	}
	return g.fold(f)
}

func (g speller) list(l []api.Filter, sign string) []string {
	var out []string
	for i, f := range l {
		if i > 0 {
			out = append(out, sign)
		}
		out = append(out, g.whole(f)...)
	}
	return out
}

// base writes what stands before the point of a field.
func (g speller) base(f api.Filter) []string {
	if f.Subs[0].Op == api.OpIdentity && !g.maybe() {
		return nil
	}
	return g.in(f.Subs[0], levelPostfix, suffixing)
}

func (g speller) field(name string) []string {
	if flex.Name(name) && !g.maybe() {
		return w("." + name)
	}
	return []string{".", jsonwrite.Quote(name)}
}

func isNull(f api.Filter) bool { return f.Op == api.OpLiteral && f.Value.Kind == api.Null }

func (g speller) bracket(f api.Filter) []string {
	switch {
	case f.Op == api.OpIterate:
		return nil
	case f.Op == api.OpIndex:
		return g.whole(f.Subs[1])
	case isNull(f.Subs[1]) && g.maybe():
		return words(w(":"), g.whole(f.Subs[2]))
	case isNull(f.Subs[2]) && !g.maybe():
		return words(g.whole(f.Subs[1]), w(":"))
	}
	return words(g.whole(f.Subs[1]), w(":"), g.whole(f.Subs[2]))
}

func (g speller) entries(l []api.Filter) []string {
	var out []string
	for i := 0; i < len(l); i += 2 {
		follow := operating
		if i+2 == len(l) {
			follow = closing
		}
		if i > 0 {
			out = append(out, ",")
		}
		out = append(out, g.entry(l[i], l[i+1], follow)...)
	}
	return out
}

func (g speller) entry(key, val api.Filter, follow int) []string {
	written := words(w(":"), g.in(val, levelAlt, follow))
	if key.Op != api.OpLiteral || key.Value.Kind != api.String || g.maybe() {
		return words(g.enclosed(key), written)
	}
	name := key.Value.Str
	if val.Op == api.OpVar && val.Text == name && !g.maybe() {
		return w("$" + name)
	}
	if equal(val, fld(dot, name)) && !g.maybe() {
		written = nil
	}
	if flex.Name(name) && !g.maybe() {
		return words(w(name), written)
	}
	return words([]string{jsonwrite.Quote(name)}, written)
}

// condition writes what follows if or elif.
func (g speller) condition(f api.Filter) []string {
	out := words(g.whole(f.Subs[0]), w("then"), g.whole(f.Subs[1]))
	rest := f.Subs[2]
	switch {
	case rest.Op == api.OpIdentity && !g.maybe():
		return words(out, w("end"))
	case rest.Op == api.OpIf && !g.maybe():
		return words(out, w("elif"), g.condition(rest))
	}
	return words(out, w("else"), g.whole(rest), w("end"))
}

func (g speller) fold(f api.Filter) []string {
	word, l := "reduce", f.Subs[1:]
	if f.Op == api.OpForeach {
		word = "foreach"
		if l[2].Op == api.OpIdentity && !g.maybe() {
			l = l[:2]
		}
	}
	return words(w(word), g.in(f.Subs[0], levelPostfix, operating), w("as $"+f.Text+" ("), g.list(l, ";"), w(")"))
}

// join writes blanks and comments between tokens, or nothing where they are the same tokens then.
func (g speller) join(l []string) string {
	var b strings.Builder
	blanks := []string{" ", " ", " ", "\n", "\t", "\r\n", "  ", "#c\n", " # \"(\n\t"}
	for i, word := range l {
		if i > 0 && (g.r.Intn(2) == 0 || !separate(l[i-1], word)) {
			b.WriteString(blanks[g.r.Intn(len(blanks))])
		}
		b.WriteString(word)
	}
	return b.String()
}

// separate reports whether two tokens are the same without a blank between them. A point, which may be one of two, never counts as such.
func separate(a, b string) bool {
	if strings.HasPrefix(b, ".") || strings.HasPrefix(a, ".") {
		return false
	}
	l, _, e := flex.Lex(a + b)
	return e == api.OK && len(l) == 3 && l[1].At == len(a)
}

// maker makes random nodes.
type maker struct{ r *rand.Rand }

func (m maker) name() string {
	names := []string{"a", "b", "f", "x", "_1", "if", "inputs", "end", "null", strings.Repeat("n", api.MaxName)}
	return names[m.r.Intn(len(names))]
}

// word is a name that is no keyword.
func (m maker) word() string {
	for {
		if s := m.name(); !flex.Keyword(s) {
			return s
		}
	}
}

// alone is the name of a function that is called without parameters.
func (m maker) alone() string {
	for {
		if s := m.word(); s != "inputs" {
			return s
		}
	}
}

func (m maker) text() string {
	l := []string{"", "a b", "é\n\"", "$x", ".", "\x00\\", "1"}
	if m.r.Intn(2) == 0 {
		return m.name()
	}
	return l[m.r.Intn(len(l))]
}

func (m maker) params() string {
	var l []string
	for range m.r.Intn(4) {
		if m.r.Intn(2) == 0 {
			l = append(l, "$"+m.name())
		} else {
			l = append(l, m.word())
		}
	}
	return strings.Join(l, " ")
}

func pick(r *rand.Rand, signs string) string {
	l := strings.Fields(signs)
	return l[r.Intn(len(l))]
}

const (
	binarySigns = "+ - * / % == != < <= > >="
	updateSigns = "= |= += -= *= /= %="
	kinds       = 36
)

// leaf returns a node without elements.
func (m maker) leaf() api.Filter {
	l := []api.Filter{dot, dot, rec, none, yes, no, num(int64(m.r.Intn(4))), num(1<<63 - 1), str(m.text()), v(m.name()), brk(m.name()), call(m.alone()), inputs, arr(), obj()}
	return l[m.r.Intn(len(l))]
}

// build returns a node of a kind; sub makes its elements.
func (m maker) build(kind int, sub func() api.Filter) api.Filter {
	switch kind {
	case 0, 1:
		return fld(sub(), m.text())
	case 2:
		return at(sub(), sub())
	case 3:
		return part(sub(), sub(), sub())
	case 4:
		return part(sub(), none, sub())
	case 5:
		return part(sub(), sub(), none)
	case 6:
		return each(sub())
	case 7:
		return arr(sub())
	case 8:
		return obj(sub(), sub())
	case 9:
		return obj(str(m.text()), sub(), sub(), sub(), str(m.text()), sub())
	case 10:
		name := m.text()
		return obj(str(name), fld(dot, name), str("x"), v("x"))
	case 11:
		return neg(sub())
	case 12, 13:
		return try(sub())
	case 14, 15:
		return try(sub(), sub())
	case 16:
		return cond(sub(), sub(), dot)
	case 17:
		return cond(sub(), sub(), sub())
	case 18:
		return cond(sub(), sub(), cond(sub(), sub(), sub()))
	case 19:
		return red(m.name(), sub(), sub(), sub())
	case 20:
		return fore(m.name(), sub(), sub(), sub(), dot)
	case 21:
		return fore(m.name(), sub(), sub(), sub(), sub())
	case 22, 23:
		return label(m.name(), sub())
	case 24, 25:
		return bind(sub(), m.name(), sub())
	case 26, 27:
		return def(m.word(), m.params(), sub(), sub())
	case 28:
		return call(m.word(), sub())
	case 29:
		return call(m.word(), sub(), sub(), sub())
	}
	return m.operation(kind, sub)
}

func (m maker) operation(kind int, sub func() api.Filter) api.Filter {
	switch kind {
	case 30:
		return pipe(sub(), sub())
	case 31:
		return comma(sub(), sub())
	case 32:
		return alt(sub(), sub())
	case 33:
		return or(sub(), sub())
	case 34:
		return and(sub(), sub())
	case 35:
		return upd(sub(), pick(m.r, updateSigns), sub())
	}
	return bin(sub(), pick(m.r, binarySigns), sub())
}

// random returns a node of at most the given depth.
func (m maker) random(depth int) api.Filter {
	if depth == 0 || m.r.Intn(6) == 0 {
		return m.leaf()
	}
	return m.build(m.r.Intn(kinds+3), func() api.Filter { return m.random(depth - 1) })
}

// expectSpelled expects that Parse reads a text of f as f, and each beginning of it as a filter or as one that is truncated.
func expectSpelled(t *testing.T, g speller, f api.Filter, beginnings bool) {
	t.Helper()
	l := g.whole(f)
	s := g.join(l)
	if len(s) > api.MaxText || len(l) > api.MaxTokens {
		return
	}
	expect(t, s, f)
	for size := range l {
		if beginnings {
			expectBeginning(t, g.join(l[:size]))
		}
	}
}

func expectBeginning(t *testing.T, s string) {
	t.Helper()
	if f, at, e := Parse(s); e != api.OK && (e != api.ErrTruncated || at != len(s) || !equal(f, api.Filter{})) {
		t.Errorf("Parse(%s), the beginning of a filter, = %s, %d, error %d", brief(s), brief(show(f)), at, e)
	}
}

// Each kind of nodes stands in each place of each kind.
func TestP11_1NodesInNodes(t *testing.T) {
	r := rand.New(rand.NewSource(13))
	m, g := maker{r}, speller{r}
	for outer := range kinds + 1 {
		for inner := range kinds + 1 {
			for range 40 {
				sub := func() api.Filter {
					if r.Intn(2) == 0 {
						return m.leaf()
					}
					return m.build(inner, m.leaf)
				}
				expectSpelled(t, g, m.build(outer, sub), false)
			}
		}
	}
	for _, sign := range strings.Fields(binarySigns) {
		for _, other := range strings.Fields(binarySigns) {
			for range 5 {
				a, b, c := m.random(1), m.random(1), m.random(1)
				expectSpelled(t, g, bin(bin(a, sign, b), other, c), true)
				expectSpelled(t, g, bin(a, sign, bin(b, other, c)), true)
			}
		}
	}
}

func TestP11_1RandomNodes(t *testing.T) {
	r := rand.New(rand.NewSource(14))
	m, g := maker{r}, speller{r}
	for range 20000 {
		expectSpelled(t, g, m.random(3), false)
	}
	for range 1000 {
		expectSpelled(t, g, m.random(2+r.Intn(3)), true)
	}
	for range 1000 {
		expectSpelled(t, g, m.random(6), false)
	}
}

// damaged changes one or two of the tokens.
func damaged(r *rand.Rand, l []string) []string {
	l = slices.Clone(l)
	for range 1 + r.Intn(2) {
		at := r.Intn(len(l))
		other := tokens()[r.Intn(len(tokens()))]
		switch r.Intn(4) {
		case 0:
			l[at] = other
		case 1:
			l = slices.Insert(l, at, other)
		case 2:
			l = append(slices.Delete(l, at, at+1), ".")
		default:
			i := r.Intn(len(l))
			l[at], l[i] = l[i], l[at]
		}
	}
	return l
}

func TestP11_1DamagedNodes(t *testing.T) {
	grammar := rules()
	r := rand.New(rand.NewSource(15))
	m, g := maker{r}, speller{r}
	for range 4000 {
		l := g.whole(m.random(1 + r.Intn(4)))
		if len(l) > 200 {
			continue
		}
		expectStated(t, grammar, g.join(l))
		for range 5 {
			expectStated(t, grammar, g.join(damaged(r, l)))
		}
	}
}

// Parentheses around an operand that is a primary or a postfix do not change the node.
func TestConsequenceParentheses(t *testing.T) {
	r := rand.New(rand.NewSource(16))
	m, g := maker{r}, speller{r}
	for range 3000 {
		f := m.random(3)
		if levelOf(f) < levelPostfix {
			continue
		}
		l := g.whole(f)
		for _, s := range []string{"%s", "(%s)", "((%s))", "-%s", "1 + %s", "%s, 2", "%s | .", "(%s) as $x | .", "{a: %s}", "if %s then 1 end"} {
			if text := strings.ReplaceAll(s, "%s", g.join(l)); len(text) <= api.MaxText {
				enclosed := strings.ReplaceAll(s, "%s", "("+g.join(l)+"\n)")
				want, _, e := Parse(text)
				if e != api.OK {
					t.Errorf("Parse(%s): error %d", brief(text), e)
				}
				expect(t, enclosed, want)
			}
		}
	}
}

// isCounted reports whether the nodes have the numbers of elements of Subs that package api describes.
func isCounted(f api.Filter) bool {
	counts := map[int]int{
		api.OpIdentity: 0, api.OpRecurse: 0, api.OpField: 1, api.OpIndex: 2, api.OpSlice: 3, api.OpIterate: 1, api.OpLiteral: 0, api.OpVar: 0, api.OpNeg: 1, api.OpPipe: 2, api.OpComma: 2, api.OpAlt: 2, api.OpOr: 2, api.OpAnd: 2, api.OpBinary: 2,
		api.OpIf: 3, api.OpReduce: 3, api.OpForeach: 4, api.OpLabel: 1, api.OpBreak: 0, api.OpBind: 2, api.OpDef: 2, api.OpUpdate: 2, api.OpInputs: 0,
	}
	count, ok := counts[f.Op]
	switch f.Op {
	case api.OpArray:
		ok = len(f.Subs) <= 1
	case api.OpTry:
		ok = len(f.Subs) == 1 || len(f.Subs) == 2
	case api.OpObject:
		ok = len(f.Subs)%2 == 0
	case api.OpCall:
		ok = true
	default:
		ok = ok && len(f.Subs) == count
	}
	return ok && !slices.ContainsFunc(f.Subs, func(sub api.Filter) bool { return !isCounted(sub) })
}

func TestConsequenceNumbersOfSubs(t *testing.T) {
	r := rand.New(rand.NewSource(17))
	found := map[int]bool{}
	for range 3000 {
		s := continued(r, tokens(), r.Intn(30))
		for _, behind := range []string{"", "1", ". end", "$x | .", ")", "]", "}", "1 ; . )", "1 ] ) }"} {
			if f, _, e := Parse(s + behind); e == api.OK {
				found[f.Op] = true
				if !isCounted(f) {
					t.Errorf("Parse(%s) = %s", brief(s+behind), show(f))
				}
			}
		}
	}
	if len(found) < 20 {
		t.Errorf("only %d kinds of nodes were examined", len(found))
	}
}

// FuzzParse runs on its seeds with go test, and goes on from them with go test -fuzz.
func FuzzParse(f *testing.F) {
	for s := range simple() {
		f.Add(s)
	}
	for i, s := range tokens() {
		f.Add(s)
		f.Add("def f($a; b): 1 + " + s + strconv.Itoa(i) + "; {a, (b): try . catch .[1:]}")
	}
	f.Add("\xff")
	f.Add("1.5 )")
	f.Add("def f(a;b;c;d;e;f;g;h;i): 1; 2")
	grammar := rules()
	f.Fuzz(func(t *testing.T, s string) {
		expectStated(t, grammar, s)
		if f, _, e := Parse(s); e == api.OK && !isCounted(f) {
			t.Errorf("Parse(%s) = %s", brief(s), show(f))
		}
	})
}
