package fprint

import (
	"fmt"
	"math/rand"
	"regexp"
	"slices"
	"strings"
	"testing"
	"unicode/utf8"

	"ndjq/api"
	"ndjq/flex"
	"ndjq/fparse"
	"ndjq/jsonwrite"
)

// The chapter's terms and its table are stated here a second time, as plainly as they stand there.

var (
	nameForm = regexp.MustCompile(`^[A-Za-z_][A-Za-z0-9_]*$`)
	keywords = strings.Fields("and as break catch def elif else end false foreach if label null or reduce then true try")
	alone    = []int{
		api.OpIdentity, api.OpRecurse, api.OpField, api.OpIndex, api.OpSlice, api.OpIterate, api.OpLiteral, api.OpVar, api.OpArray, api.OpObject,
		api.OpIf, api.OpReduce, api.OpForeach, api.OpCall, api.OpInputs, api.OpBreak,
	}
	// The least and the greatest number of elements.
	counts = map[int][2]int{
		api.OpIdentity: {0, 0}, api.OpRecurse: {0, 0}, api.OpField: {1, 1}, api.OpIndex: {2, 2}, api.OpSlice: {3, 3}, api.OpIterate: {1, 1}, api.OpLiteral: {0, 0}, api.OpVar: {0, 0},
		api.OpArray: {0, 1}, api.OpObject: {0, 1 << 30}, api.OpNeg: {1, 1}, api.OpPipe: {2, 2}, api.OpComma: {2, 2}, api.OpAlt: {2, 2}, api.OpOr: {2, 2}, api.OpAnd: {2, 2}, api.OpBinary: {2, 2}, api.OpIf: {3, 3},
		api.OpTry: {1, 2}, api.OpReduce: {3, 3}, api.OpForeach: {4, 4}, api.OpLabel: {1, 1}, api.OpBreak: {0, 0}, api.OpBind: {2, 2}, api.OpCall: {0, 1 << 30}, api.OpDef: {2, 2}, api.OpUpdate: {2, 2}, api.OpInputs: {0, 0},
	}
)

func statedName(s string) bool { return nameForm.MatchString(s) && len(s) <= api.MaxName }

func statedWord(s string) bool { return statedName(s) && !slices.Contains(keywords, s) }

func statedText(f api.Filter) bool {
	s := f.Text
	switch f.Op {
	case api.OpCall:
		return statedWord(s) && !(s == "inputs" && len(f.Subs) == 0)
	case api.OpDef:
		return statedWord(s)
	case api.OpVar, api.OpReduce, api.OpForeach, api.OpLabel, api.OpBreak, api.OpBind:
		return statedName(s)
	case api.OpField:
		return utf8.ValidString(s) && len(s) <= api.MaxString
	case api.OpBinary:
		return slices.Contains(strings.Fields("+ - * / % == != < <= > >="), s)
	case api.OpUpdate:
		return slices.Contains(strings.Fields("= |= += -= *= /= %="), s)
	}
	return s == ""
}

func statedValue(f api.Filter) bool {
	x := f.Value
	zero := api.Value{}
	if f.Op == api.OpLiteral {
		switch x.Kind {
		case api.Null, api.True, api.False:
			zero.Kind = x.Kind
		case api.Number:
			zero.Kind, zero.Int = x.Kind, max(x.Int, 0)
		case api.String:
			if !utf8.ValidString(x.Str) || len(x.Str) > api.MaxString {
				return false
			}
			zero.Kind, zero.Str = x.Kind, x.Str
		}
	}
	return equalValues(x, zero)
}

func statedParams(f api.Filter) bool {
	if f.Op != api.OpDef {
		return len(f.Params) == 0
	}
	return len(f.Params) <= api.MaxParams && !slices.ContainsFunc(f.Params, func(s string) bool {
		return !statedWord(s) && !(strings.HasPrefix(s, "$") && statedName(s[1:]))
	})
}

func statedPrintable(f api.Filter) bool {
	count, ok := counts[f.Op]
	size := len(f.Subs)
	ok = ok && size >= count[0] && size <= count[1] && !(f.Op == api.OpObject && size%2 != 0)
	return ok && statedText(f) && statedValue(f) && statedParams(f) && !slices.ContainsFunc(f.Subs, func(sub api.Filter) bool { return !statedPrintable(sub) })
}

// statedPrint returns the text of a printable node.
func statedPrint(f api.Filter) string {
	var whole, enclosed []any
	for _, sub := range f.Subs {
		text := statedPrint(sub)
		whole = append(whole, text)
		if !slices.Contains(alone, sub.Op) && !(sub.Op == api.OpTry && len(sub.Subs) == 1) {
			text = "(" + text + ")"
		}
		enclosed = append(enclosed, text)
	}
	switch f.Op {
	case api.OpIdentity:
		return "."
	case api.OpRecurse:
		return ".."
	case api.OpInputs:
		return "inputs"
	case api.OpField:
		return statedField(f, enclosed[0].(string))
	case api.OpIndex:
		return fmt.Sprintf("%s[%s]", enclosed[0], whole[1])
	case api.OpSlice:
		return fmt.Sprintf("%s[%s:%s]", enclosed[0], whole[1], whole[2])
	case api.OpIterate:
		return fmt.Sprintf("%s[]", enclosed...)
	case api.OpLiteral:
		return jsonwrite.Text(f.Value)
	case api.OpVar:
		return "$" + f.Text
	case api.OpBreak:
		return "break $" + f.Text
	case api.OpArray:
		return "[" + fmt.Sprint(whole...) + "]"
	case api.OpNeg:
		return fmt.Sprintf("-%s", enclosed...)
	case api.OpTry:
		return fmt.Sprintf([]string{"%s?", "try %s catch %s"}[len(f.Subs)-1], enclosed...)
	case api.OpIf:
		return fmt.Sprintf("if %s then %s else %s end", whole...)
	}
	return statedNamed(f, whole, enclosed)
}

func statedField(f api.Filter, before string) string {
	if f.Subs[0].Op == api.OpIdentity {
		before = ""
	}
	if statedName(f.Text) {
		return before + "." + f.Text
	}
	return before + "." + jsonwrite.Quote(f.Text)
}

// statedNamed returns the text of the other rows.
func statedNamed(f api.Filter, whole, enclosed []any) string {
	switch f.Op {
	case api.OpReduce:
		return fmt.Sprintf("reduce %s as $%s (%s; %s)", enclosed[0], f.Text, whole[1], whole[2])
	case api.OpForeach:
		return fmt.Sprintf("foreach %s as $%s (%s; %s; %s)", enclosed[0], f.Text, whole[1], whole[2], whole[3])
	case api.OpLabel:
		return fmt.Sprintf("label $%s | %s", f.Text, whole[0])
	case api.OpBind:
		return fmt.Sprintf("%s as $%s | %s", enclosed[0], f.Text, whole[1])
	case api.OpCall:
		return f.Text + statedList(whole)
	case api.OpDef:
		var params []any
		for _, s := range f.Params {
			params = append(params, s)
		}
		return fmt.Sprintf("def %s%s: %s; %s", f.Text, statedList(params), whole[0], whole[1])
	case api.OpObject:
		var members []string
		for i := 0; i < len(whole); i += 2 {
			members = append(members, fmt.Sprintf("(%s): %s", whole[i], enclosed[i+1]))
		}
		return "{" + strings.Join(members, ", ") + "}"
	case api.OpComma:
		return fmt.Sprintf("%s, %s", enclosed...)
	}
	sign := map[int]string{api.OpPipe: "|", api.OpAlt: "//", api.OpOr: "or", api.OpAnd: "and", api.OpBinary: f.Text, api.OpUpdate: f.Text}[f.Op]
	return fmt.Sprintf("%s %s %s", enclosed[0], sign, enclosed[1])
}

// statedList returns a list in parentheses, or nothing.
func statedList(l []any) string {
	if len(l) == 0 {
		return ""
	}
	return "(" + strings.TrimSuffix(fmt.Sprintf(strings.Repeat("%s; ", len(l)), l...), "; ") + ")"
}

// expectStated expects what the second statement says, and returns whether f is printable.
func expectStated(t *testing.T, f api.Filter) bool {
	t.Helper()
	if !statedPrintable(f) {
		expectNone(t, f)
		return false
	}
	expect(t, f, statedPrint(f))
	return true
}

// expectReadBack expects that the text of f, which is printable, is a text of f if it is within the limits.
func expectReadBack(t *testing.T, f api.Filter) {
	t.Helper()
	s := Print(f)
	if _, _, e := flex.Lex(s); e == api.ErrLimit {
		return
	}
	g, at, e := fparse.Parse(s)
	if e != api.OK || at != 0 || !equal(f, g) {
		t.Errorf("Parse(%s), the text of %s, = %s, %d, error %d", brief(s), show(f), show(g), at, e)
	}
}

// maker makes random nodes that are printable.
type maker struct{ r *rand.Rand }

func pick[T any](m maker, l []T) T { return l[m.r.Intn(len(l))] }

func (m maker) name() string {
	return pick(m, []string{"a", "b", "f", "x", "_1", "N", "P0", "T1", "if", "inputs", "end", "null", strings.Repeat("n", api.MaxName)})
}

// word is a name that is no keyword.
func (m maker) word() string {
	return pick(m, []string{"a", "b", "f", "x", "_1", "N", "P0", "inputs", "empty", "map", strings.Repeat("n", api.MaxName)})
}

func (m maker) text() string {
	if m.r.Intn(2) == 0 {
		return m.name()
	}
	return pick(m, []string{"", "a b", "é\n\"", "$x", ".", "\x00\\", "1", "P0 N", strings.Repeat("n", api.MaxName+1)})
}

func (m maker) literal() api.Value {
	return pick(m, []api.Value{{}, {Kind: api.True}, {Kind: api.False}, {Kind: api.Number}, {Kind: api.Number, Int: 7}, {Kind: api.Number, Int: 1<<63 - 1}, {Kind: api.String}, {Kind: api.String, Str: m.text()}})
}

func (m maker) params() []string {
	var l []string
	for range m.r.Intn(api.MaxParams + 1) {
		l = append(l, pick(m, []string{m.word(), "$" + m.name()}))
	}
	return l
}

// kind is an operator and a number of elements.
type kind struct{ op, size int }

// kinds are those of all printable nodes, of each number of elements if it is fixed.
func kinds() []kind {
	var l []kind
	for op := api.OpIdentity; op <= api.OpInputs; op++ {
		least, most := counts[op][0], min(counts[op][1], 4)
		for size := least; size <= most; size++ {
			if op != api.OpObject || size%2 == 0 {
				l = append(l, kind{op, size})
			}
		}
	}
	return l
}

// build returns a node of the given kind; sub makes its elements.
func (m maker) build(k kind, sub func() api.Filter) api.Filter {
	f := api.Filter{Op: k.op}
	for range k.size {
		f.Subs = append(f.Subs, sub())
	}
	switch k.op {
	case api.OpField:
		f.Text = m.text()
	case api.OpVar, api.OpReduce, api.OpForeach, api.OpLabel, api.OpBreak, api.OpBind:
		f.Text = m.name()
	case api.OpLiteral:
		f.Value = m.literal()
	case api.OpCall:
		f.Text = m.word()
		if f.Text == "inputs" && k.size == 0 {
			f.Text = "inputs_"
		}
	case api.OpDef:
		f.Text, f.Params = m.word(), m.params()
	case api.OpBinary:
		f.Text = pick(m, strings.Fields("+ - * / % == != < <= > >="))
	case api.OpUpdate:
		f.Text = pick(m, strings.Fields("= |= += -= *= /= %="))
	}
	return f
}

func leaves() []kind {
	return slices.DeleteFunc(kinds(), func(k kind) bool { return k.size > 0 })
}

func (m maker) leaf() api.Filter {
	return m.build(pick(m, leaves()), nil)
}

// random returns a node of at most the given depth.
func (m maker) random(depth int) api.Filter {
	if depth == 0 || m.r.Intn(6) == 0 {
		return m.leaf()
	}
	return m.build(pick(m, kinds()), func() api.Filter { return m.random(depth - 1) })
}

// Each kind of nodes stands in each place of each kind: its parentheses are those of the table, and the text is read as the node.
func TestP12_1NodesInNodes(t *testing.T) {
	m := maker{rand.New(rand.NewSource(21))}
	for _, outer := range kinds() {
		for _, inner := range kinds() {
			for place := range outer.size {
				f := m.build(outer, m.leaf)
				f.Subs[place] = m.build(inner, m.leaf)
				if !expectStated(t, f) {
					t.Errorf("%s is not printable", show(f))
				}
				expectReadBack(t, f)
			}
		}
	}
}

func TestP12_1RandomNodes(t *testing.T) {
	m := maker{rand.New(rand.NewSource(22))}
	for range 20000 {
		f := m.random(m.r.Intn(5))
		if !expectStated(t, f) {
			t.Errorf("%s is not printable", show(f))
		}
		expectReadBack(t, f)
	}
}

// damage changes one field of f, which may leave it printable.
func (m maker) damage(f *api.Filter) {
	switch m.r.Intn(8) {
	case 0, 1:
		f.Op = pick(m, []int{0, -1, 29, 1 << 40, -1 << 63, 1 + m.r.Intn(28), 1 + m.r.Intn(28), 1 + m.r.Intn(28)})
	case 2, 3:
		f.Text = pick(m, []string{"", "a", "if", "inputs", "+", "//", "|=", "1", "a b", "\xff", "é", strings.Repeat("n", api.MaxName+1), strings.Repeat("n", api.MaxString+1)})
	case 4:
		f.Value = pick(m, []api.Value{{Kind: api.True}, {Kind: api.Number, Int: -1}, {Kind: api.Number, Int: 1, Str: "a"}, {Kind: api.Array}, {Kind: api.Object}, {Kind: 7}, {Kind: -1}, {Int: 1}, {Str: "a"}, {Keys: []string{""}}, {Elems: []api.Value{{}}}, {Kind: api.String, Str: "\xff"}})
	case 5:
		f.Params = pick(m, [][]string{nil, {}, {"a"}, {"$if"}, {"if"}, {""}, {"$"}, {"a", "$$a"}, {"a b"}, slices.Repeat([]string{"a"}, api.MaxParams+1)})
	case 6:
		f.Subs = append(f.Subs, m.leaf())
	case 7:
		f.Subs = f.Subs[:len(f.Subs)/2]
	}
}

// somewhere returns a random node of f.
func (m maker) somewhere(f *api.Filter) *api.Filter {
	for len(f.Subs) > 0 && m.r.Intn(4) > 0 {
		f = &f.Subs[m.r.Intn(len(f.Subs))]
	}
	return f
}

func TestP12_1DamagedNodes(t *testing.T) {
	m := maker{rand.New(rand.NewSource(23))}
	found := map[bool]int{}
	for range 60000 {
		f := m.random(m.r.Intn(4))
		m.damage(m.somewhere(&f))
		if m.r.Intn(3) == 0 {
			m.damage(m.somewhere(&f))
		}
		printable := expectStated(t, f)
		found[printable]++
		if printable {
			expectReadBack(t, f)
		}
	}
	if found[true] < 1000 || found[false] < 1000 {
		t.Errorf("%d were printable and %d were not", found[true], found[false])
	}
}

// A text that is a filter has the same text again after it was read.
func expectConsequence(t *testing.T, s string) {
	t.Helper()
	f, _, e := fparse.Parse(s)
	if e != api.OK {
		return
	}
	if !expectStated(t, f) {
		t.Errorf("%s, the node of %s, is not printable", show(f), brief(s))
	}
	expectReadBack(t, f)
}

// continued returns random tokens; those that follow a filter are as frequent as those that begin one.
func continued(m maker) string {
	begin := strings.Fields(`. .. .a $x 1 "s" true null f inputs ( [ { - if try reduce foreach break label def ."k" f( [] {a} {"b",$c} (1) try`)
	behind := strings.Fields(`| , = |= // or and == < + - * / % ? .a ."k" [] [ ) ] } ; : as$x| end then else catch ?// [1] [1:] [:2]`)
	var b strings.Builder
	for range 1 + m.r.Intn(8) {
		b.WriteString(pick(m, begin) + " ")
		for m.r.Intn(3) > 0 {
			b.WriteString(pick(m, behind) + " ")
		}
	}
	return b.String()
}

func TestConsequenceParse(t *testing.T) {
	m := maker{rand.New(rand.NewSource(24))}
	for range 100000 {
		expectConsequence(t, continued(m))
	}
	for _, s := range samples() {
		expect(t, parse(t, s), statedPrint(parse(t, s)))
		expectConsequence(t, s)
	}
}

// samples have nodes of all kinds.
func samples() []string {
	return []string{
		"def f($a; b; $c): .c | $a + 12 * \"str\" // ..; {if: [f(1; .)], a, \"b\", $c, (.d): 2}?", "reduce inputs as $x (0; . + $x)", "foreach .[] as $x (0; 1; 2), foreach .[] as $x (0; 1)", "label $out | try break $out catch .a.\"b\"[1][:2][3:][]",
		"if 1 then 2 elif 3 then -4 end | . as $y | .a |= ($y and true or null)", "f(1; 2; 3; 4; 5; 6; 7)", "{a, b, c, d, e, f, g}", ".a.\"b c\".if", "inputs(1), inputs", "[.[] | try (if . == 0 then error(\"zero\") else 12 / . end) catch .]", "def f: def g(h): h; g(1); f as $x | $x", "try try 1 catch 2 catch 3", "(try 1 catch 2)?.a", "try .a??", "--1 - -1",
	}
}

// FuzzPrint runs on its seeds with go test, and goes on from them with go test -fuzz.
func FuzzPrint(f *testing.F) {
	m := maker{rand.New(rand.NewSource(25))}
	for _, s := range samples() {
		f.Add(s)
	}
	for range 300 {
		f.Add(Print(m.random(3)))
	}
	f.Fuzz(expectConsequence)
}
