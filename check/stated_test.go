package check

import (
	"fmt"
	"math/rand"
	"regexp"
	"slices"
	"strings"
	"testing"

	"ndjq/api"
	"ndjq/flex"
	"ndjq/fparse"
	"ndjq/fprint"
)

// The chapter's terms are stated here a second time, as plainly as they stand there: names are sought in the nodes around a node.

// tableOf15 contains the first column of the table of chapter 15.
const tableOf15 = `empty
error; error(w)
not
type
length, keys, elements, add, any, all, reverse, to_entries, from_entries, transpose
explode, implode, ascii_downcase, ascii_upcase, trim, tostring, tonumber, tojson, fromjson
has(k), contains(w), flatten(n)
sort_keys(k), group_keys(k), unique_keys(k), min_keys(k), max_keys(k)
sort, group, unique, min, max
startswith(s), endswith(s), ltrimstr(s), rtrimstr(s), split(s), join(s), indices(s)
getpath(p), delpaths(p), setpath(p; x)
path(f)`

// preludeOf14 contains the definitions of chapter 14 up to their colons.
const preludeOf14 = `def "..": def "=" (p; f): def "|=" (p; f): def "+=" (p; f): def "-=" (p; f): def "*=" (p; f): def "/=" (p; f): def "%=" (p; f):
def map(f): def select(f): def recurse: def recurse(f): def range($n): def range($m; $n): def while(c; f): def until(c; f): def repeat(f): def limit($n; f): def first(f): def last(f): def nth($n; f): def isempty(f): def any(f): def all(f): def del(f): def to_array: def with_entries(f): def map_values(f): def sort_by(f): def group_by(f): def unique_by(f): def min_by(f): def max_by(f): def walk(f): def paths: def leaf_paths: def inside($w): def combinations: def in($w): def flatten:`

// statedList is computed once.
var statedList = statedBuiltins()

func statedBuiltins() []string {
	var l []string
	for _, found := range regexp.MustCompile(`([a-z_]+)(\([^)]*\))?`).FindAllStringSubmatch(tableOf15, -1) {
		l = append(l, found[1]+"/"+countOf(found[2]))
	}
	for _, found := range regexp.MustCompile(`def ("[^"]*"|[a-z_]+) ?(\([^)]*\))?:`).FindAllStringSubmatch(preludeOf14, -1) {
		if flex.Name(found[1]) {
			l = append(l, found[1]+"/"+countOf(found[2]))
		}
	}
	slices.Sort(l)
	return l
}

// countOf returns the number of parameters of a list in parentheses, or of none.
func countOf(params string) string {
	if params == "" {
		return "0"
	}
	return fmt.Sprint(1 + strings.Count(params, ";"))
}

// within is a node with the nodes around it, the outermost one first; element place[i] of around[i] is the next one.
type within struct {
	f      api.Filter
	around []api.Filter
	place  []int
}

// nodesOf returns all nodes of f, each one before its elements.
func nodesOf(x within) []within {
	l := []within{x}
	for i, sub := range x.f.Subs {
		l = append(l, nodesOf(within{sub, append(slices.Clone(x.around), x.f), append(slices.Clone(x.place), i)})...)
	}
	return l
}

// statedNames returns what f introduces and in which elements.
func statedNames(f api.Filter) map[string][]int {
	switch f.Op {
	case api.OpBind:
		return map[string][]int{"$" + f.Text: {1}}
	case api.OpReduce:
		return map[string][]int{"$" + f.Text: {2}}
	case api.OpForeach:
		return map[string][]int{"$" + f.Text: {2, 3}}
	case api.OpLabel:
		return map[string][]int{"label " + f.Text: {0}}
	case api.OpDef:
		l := map[string][]int{}
		for _, param := range f.Params {
			if param[0] != '$' {
				param += "/0"
			}
			l[param] = []int{0}
		}
		l[fmt.Sprintf("%s/%d", f.Text, len(f.Params))] = []int{0, 1}
		return l
	}
	return nil
}

// has reports whether x is in a scope of a name for which is holds.
func (x within) has(is func(string) bool) bool {
	for i, f := range x.around {
		for s, elements := range statedNames(f) {
			if is(s) && slices.Contains(elements, x.place[i]) {
				return true
			}
		}
	}
	return false
}

func (x within) isSource() bool {
	last := len(x.around) - 1
	for i, f := range x.around {
		if i < last && (f.Op != api.OpDef || x.place[i] != 1) || i == last && (f.Op != api.OpReduce || x.place[i] != 0) {
			return false
		}
	}
	return last >= 0
}

// statedError returns the error of x itself.
func (x within) statedError() api.Errno {
	good := true
	switch x.f.Op {
	case api.OpVar:
		good = x.has(func(s string) bool { return s == "$"+x.f.Text })
	case api.OpBreak:
		good = x.has(func(s string) bool { return s == "label "+x.f.Text })
	case api.OpInputs:
		good = x.isSource()
	case api.OpCall:
		is := func(s string) bool { return s == fmt.Sprintf("%s/%d", x.f.Text, len(x.f.Subs)) }
		if x.has(is) || slices.ContainsFunc(statedList, is) {
			return api.OK
		}
		ofName := func(s string) bool { return strings.HasPrefix(s, x.f.Text+"/") }
		if x.has(ofName) || slices.ContainsFunc(statedList, ofName) {
			return api.ErrArity
		}
		return api.ErrName
	}
	if !good {
		return api.ErrName
	}
	return api.OK
}

func statedCheck(f api.Filter) ([]int, api.Errno) {
	if !fprint.Printable(f) {
		return nil, api.ErrInvalid
	}
	for _, x := range nodesOf(within{f: f}) {
		if e := x.statedError(); e != api.OK {
			return x.place, e
		}
	}
	return nil, api.OK
}

func statedFold(f api.Filter) bool {
	return f.Op == api.OpReduce && len(f.Subs) > 0 && f.Subs[0].Op == api.OpInputs || f.Op == api.OpDef && len(f.Subs) > 1 && statedFold(f.Subs[1])
}

// expectStated expects what the second statement says, and returns the error.
func expectStated(t *testing.T, f api.Filter) api.Errno {
	t.Helper()
	place, want := statedCheck(f)
	expect(t, f, want, place...)
	if Fold(f) != statedFold(f) {
		t.Errorf("Fold(%s) is %v", show(f), Fold(f))
	}
	return want
}

func TestP13_2Builtins(t *testing.T) {
	l := Builtins()
	if !slices.Equal(l, statedList) {
		t.Errorf("Builtins() = %q, not %q", l, statedList)
	}
	if len(l) != 80 || !slices.IsSorted(l) || len(slices.Compact(slices.Clone(l))) != len(l) {
		t.Errorf("Builtins() = %q", l)
	}
}

// Each builtin is known without a definition, with its number of parameters, and no function of another name is.
func TestP13_1Builtins(t *testing.T) {
	for _, s := range Builtins() {
		name, _, _ := strings.Cut(s, "/")
		for count := range 10 {
			want := api.ErrArity
			if slices.Contains(statedList, fmt.Sprintf("%s/%d", name, count)) {
				want = api.OK
			}
			expect(t, call(name, slices.Repeat([]api.Filter{dot}, count)...), want)
		}
		for _, other := range []string{name + "_", "_" + name, strings.ToUpper(name), name + "0", name[1:], name[:len(name)-1]} {
			if flex.Name(other) && !flex.Keyword(other) && !slices.ContainsFunc(statedList, func(s string) bool { return strings.HasPrefix(s, other+"/") }) {
				expect(t, call(other), api.ErrName)
				expect(t, call(other, dot), api.ErrName)
			}
		}
		expect(t, named(api.OpVar, name), api.ErrName)
		expect(t, named(api.OpBreak, name), api.ErrName)
	}
}

// maker makes random nodes that are printable.
type maker struct{ r *rand.Rand }

func pick[T any](m maker, l []T) T { return l[m.r.Intn(len(l))] }

func (m maker) name() string { return pick(m, []string{"a", "a", "b", "map", "if"}) }

// word is a name that is no keyword.
func (m maker) word() string { return pick(m, []string{"a", "a", "b", "map", "range", "length"}) }

func (m maker) params() []string {
	var l []string
	for range m.r.Intn(4) {
		l = append(l, pick(m, []string{m.word(), "$" + m.name()}))
	}
	return l
}

// kind is an operator and a number of elements.
type kind struct{ op, size int }

// kinds are those of all printable nodes with up to four elements.
var kinds = allKinds()

func allKinds() []kind {
	var l []kind
	for op := api.OpIdentity; op <= api.OpInputs; op++ {
		for size := range 5 {
			f := n(op, slices.Repeat([]api.Filter{dot}, size)...)
			for _, text := range []string{"", "+", "=", "a"} {
				f.Text = text
				if fprint.Printable(f) {
					l = append(l, kind{op, size})
					break
				}
			}
		}
	}
	return l
}

// build returns a node of the given kind; sub makes its elements.
func (m maker) build(k kind, sub func() api.Filter) api.Filter {
	f := api.Filter{Op: k.op}
	for range k.size {
		f.Subs = append(f.Subs, sub())
	}
	switch k.op {
	case api.OpField, api.OpVar, api.OpReduce, api.OpForeach, api.OpLabel, api.OpBreak, api.OpBind:
		f.Text = m.name()
	case api.OpCall:
		f.Text = m.word()
	case api.OpDef:
		f.Text, f.Params = m.word(), m.params()
	case api.OpBinary:
		f.Text = "+"
	case api.OpUpdate:
		f.Text = "|="
	}
	return f
}

// uses are the kinds whose names must be known; they and the kinds with scopes are chosen more often than others.
func uses() []kind {
	return []kind{{api.OpVar, 0}, {api.OpVar, 0}, {api.OpBreak, 0}, {api.OpCall, 0}, {api.OpCall, 0}, {api.OpInputs, 0}, {api.OpIdentity, 0}}
}

func scopes() []kind {
	return []kind{{api.OpBind, 2}, {api.OpReduce, 3}, {api.OpForeach, 4}, {api.OpLabel, 1}, {api.OpDef, 2}, {api.OpDef, 2}, {api.OpCall, 1}, {api.OpCall, 2}}
}

func (m maker) leaf() api.Filter { return m.build(pick(m, uses()), nil) }

// random returns a node of at most the given depth.
func (m maker) random(depth int) api.Filter {
	if depth == 0 || m.r.Intn(8) == 0 {
		return m.leaf()
	}
	k := pick(m, scopes())
	if m.r.Intn(3) == 0 {
		k = pick(m, kinds)
	}
	return m.build(k, func() api.Filter { return m.random(depth - 1) })
}

// fold returns a node that may be a fold.
func (m maker) fold(depth int) api.Filter {
	f := named(api.OpReduce, m.name(), inputs, m.random(depth), m.random(depth))
	for range m.r.Intn(3) {
		around := m.build(pick(m, []kind{{api.OpDef, 2}, {api.OpDef, 2}, {api.OpDef, 2}, {api.OpPipe, 2}}), func() api.Filter { return m.random(1) })
		around.Subs[1] = f
		f = around
	}
	return f
}

func (m maker) any(depth int) api.Filter {
	if m.r.Intn(4) == 0 {
		return m.fold(depth)
	}
	return m.random(depth)
}

// at returns the node of f with the given place.
func at(f *api.Filter, place []int) *api.Filter {
	for _, i := range place {
		f = &f.Subs[i]
	}
	return f
}

// repaired replaces the nodes of f that have errors until f is well-formed.
func repaired(f api.Filter) api.Filter {
	for {
		place, e := statedCheck(f)
		if e == api.OK {
			return f
		}
		*at(&f, place) = dot
	}
}

// Each use of a name stands in each element of each kind of nodes, which has the same name or another one.
func TestP13_1UsesInNodes(t *testing.T) {
	var l []api.Filter
	for _, name := range []string{"a", "b"} {
		l = append(l, named(api.OpVar, name), named(api.OpBreak, name), call(name), call(name, dot), call(name, dot, dot), inputs)
	}
	m := maker{rand.New(rand.NewSource(31))}
	for _, k := range kinds {
		for _, params := range []string{"", "a", "$a", "b", "$b", "a a", "$a a", "b $a"} {
			f := m.build(k, func() api.Filter { return null })
			if flex.Name(f.Text) {
				f.Text = "a"
			}
			if k.op == api.OpDef {
				f.Params = strings.Fields(params)
			}
			for place := range k.size {
				for _, use := range l {
					g := f
					g.Subs = slices.Clone(f.Subs)
					g.Subs[place] = use
					expectStated(t, g)
					expectStated(t, n(api.OpArray, g))
					expectStated(t, def("a", "", dot, g))
					expectStated(t, named(api.OpBind, "a", use, g))
				}
			}
		}
	}
}

func TestP13_1RandomNodes(t *testing.T) {
	m := maker{rand.New(rand.NewSource(32))}
	found := map[api.Errno]int{}
	for range 12000 {
		f := m.any(m.r.Intn(4))
		found[expectStated(t, f)]++
		f = repaired(f)
		if e := expectStated(t, f); e != api.OK {
			t.Errorf("%s, which was repaired: error %d", show(f), e)
		}
		l := nodesOf(within{f: f})
		*at(&f, pick(m, l).place) = m.leaf()
		found[expectStated(t, f)]++
	}
	for _, e := range []api.Errno{api.OK, api.ErrName, api.ErrArity} {
		if found[e] < 1000 {
			t.Errorf("error %d was found %d times", e, found[e])
		}
	}
}

// damage changes one field of f, which may leave it printable.
func (m maker) damage(f *api.Filter) {
	switch m.r.Intn(6) {
	case 0:
		f.Op = m.r.Intn(30)
	case 1, 2:
		f.Text = pick(m, []string{"", "a", "b", "if", "inputs", "+", "..", "a b", strings.Repeat("n", api.MaxName+1)})
	case 3:
		f.Params = pick(m, [][]string{nil, {"a"}, {"$if"}, {"if"}, {""}, {"$"}, {"a", "$$a"}, slices.Repeat([]string{"a"}, api.MaxParams+1)})
	case 4:
		f.Subs = append(f.Subs, m.leaf())
	case 5:
		f.Subs = f.Subs[:len(f.Subs)/2]
	}
}

func TestP13_1DamagedNodes(t *testing.T) {
	m := maker{rand.New(rand.NewSource(33))}
	found := map[api.Errno]int{}
	for range 20000 {
		f := repaired(m.any(m.r.Intn(4)))
		m.damage(at(&f, pick(m, nodesOf(within{f: f})).place))
		found[expectStated(t, f)]++
	}
	for _, e := range []api.Errno{api.OK, api.ErrName, api.ErrArity, api.ErrInvalid} {
		if found[e] < 100 {
			t.Errorf("error %d was found %d times", e, found[e])
		}
	}
}

// owner returns the length of the place of the innermost node around x that introduces s for x, or -1.
func (x within) owner(s string) int {
	for i := len(x.around) - 1; i >= 0; i-- {
		if slices.Contains(statedNames(x.around[i])[s], x.place[i]) {
			return i
		}
	}
	return -1
}

// usedName returns the name that x uses, as statedNames writes it.
func (x within) usedName() string {
	switch x.f.Op {
	case api.OpVar:
		return "$" + x.f.Text
	case api.OpBreak:
		return "label " + x.f.Text
	case api.OpCall:
		return fmt.Sprintf("%s/%d", x.f.Text, len(x.f.Subs))
	}
	return ""
}

// rename changes the name s, which the node of f with the given place introduces, and its uses to another one.
func rename(f *api.Filter, place []int, s, other string) {
	for _, x := range nodesOf(within{f: *f}) {
		if x.usedName() == s && x.owner(s) == len(place) && slices.Equal(x.place[:len(place)], place) {
			at(f, x.place).Text = other
		}
	}
	owner := at(f, place)
	if owner.Op != api.OpDef {
		owner.Text = other
		return
	}
	owner.Params = slices.Clone(owner.Params)
	for i, param := range owner.Params {
		switch s {
		case param:
			owner.Params[i] = "$" + other
		case param + "/0":
			owner.Params[i] = other
		}
	}
}

// A filter stays well-formed when a variable, a label or a parameter has another name.
func TestConsequenceRenaming(t *testing.T) {
	m := maker{rand.New(rand.NewSource(34))}
	renamed := 0
	for range 4000 {
		f := repaired(m.any(1 + m.r.Intn(4)))
		for _, x := range nodesOf(within{f: f}) {
			for s := range statedNames(x.f) {
				if x.f.Op == api.OpDef && s == fmt.Sprintf("%s/%d", x.f.Text, len(x.f.Params)) {
					continue
				}
				text := fprint.Print(f)
				g := parse(t, text)
				rename(&g, x.place, s, pick(m, []string{"other", "recurse", "_"}))
				renamed++
				if place, e := Check(g); e != api.OK || len(place) > 0 {
					t.Errorf("Check of %s, which was %s, = %v, error %d", fprint.Print(g), text, place, e)
				}
			}
		}
	}
	if renamed < 10000 {
		t.Errorf("%d names were changed", renamed)
	}
}

func samples() []string {
	return []string{
		". as $x | $x", "$x | . as $x | .", "map", "foo", "def f(g): g; f(f(1))", "reduce inputs as $x (0; . + $x)", "[inputs]", "def f: f(1); f",
		"def f($a; b; $c): .c | $a + 12 * \"str\" // ..; {if: [f(1; .; b)], a, \"b\", $c, (.d): 2}?", "foreach .[] as $x (0; 1; 2), foreach .[] as $x ($x; $x)", "label $out | try break $out catch break $in", "if 1 then 2 elif $if then -4 end | . as $y | .a |= ($y and true or null)",
		"def f: def g(h): h; g(1); f as $x | $x | g", "def f(f; g; $g): f | f(f; g; $g) | f(f); def map: map(map); map", "def f: 1; def g(x): x | f | g(f); reduce inputs as $x (0; g(f(x)))", "label $a | def f($a): $a | break $a; f(label $b | break $b | range(1; 2; 3))",
	}
}

// FuzzCheck runs on its seeds with go test, and goes on from them with go test -fuzz.
func FuzzCheck(f *testing.F) {
	m := maker{rand.New(rand.NewSource(35))}
	for _, s := range samples() {
		f.Add(s)
	}
	for range 300 {
		f.Add(fprint.Print(m.any(3)))
	}
	f.Fuzz(func(t *testing.T, s string) {
		if g, _, e := fparse.Parse(s); e == api.OK {
			expectStated(t, g)
		}
	})
}
