package desugar

import (
	"fmt"
	"math/rand"
	"slices"
	"strings"
	"testing"

	"ndjq/api"
	"ndjq/check"
	"ndjq/fparse"
	"ndjq/fprint"
)

// The chapter's second promise is stated here a second time: for each definition it is sought whether it is called.

// sugar returns the operators that core filters do not contain.
func sugar() []int { return []int{api.OpField, api.OpRecurse, api.OpUpdate} }

// nodesOf returns all nodes of f, each one before its elements.
func nodesOf(f api.Filter) []api.Filter {
	l := []api.Filter{f}
	for _, sub := range f.Subs {
		l = append(l, nodesOf(sub)...)
	}
	return l
}

// statedNodes returns the translation of f without definitions.
func statedNodes(f api.Filter) api.Filter {
	l := make([]api.Filter, len(f.Subs))
	for i, sub := range f.Subs {
		l[i] = statedNodes(sub)
	}
	switch f.Op {
	case api.OpField:
		return n(api.OpIndex, l[0], literal(f.Text))
	case api.OpRecurse:
		return call("..")
	case api.OpUpdate:
		return call(f.Text, l[0], l[1])
	}
	f.Subs = l
	return f
}

// ownNames returns the functions that are known in the body of a definition because of it.
func ownNames(f api.Filter) []string {
	l := []string{fmt.Sprintf("%s/%d", f.Text, len(f.Params))}
	for _, param := range f.Params {
		l = append(l, param+"/0")
	}
	return l
}

// outerCalls returns the functions that are called in f outside of the scopes of functions with the same names and numbers of parameters, where those of known are known everywhere.
func outerCalls(f api.Filter, known []string) []string {
	var l []string
	if s := fmt.Sprintf("%s/%d", f.Text, len(f.Subs)); f.Op == api.OpCall && !slices.Contains(known, s) {
		l = append(l, s)
	}
	for i, sub := range f.Subs {
		inner := known
		switch {
		case f.Op == api.OpDef && i == 0:
			inner = append(slices.Clone(known), ownNames(f)...)
		case f.Op == api.OpDef:
			inner = append(slices.Clone(known), ownNames(f)[0])
		}
		l = append(l, outerCalls(sub, inner)...)
	}
	return l
}

// statedCalls are the calls of each definition of the prelude.
var statedCalls = callsOfPrelude()

func callsOfPrelude() map[string][]string {
	all := map[string][]string{}
	for _, d := range statedPrelude {
		all[ownNames(d)[0]] = outerCalls(d.Subs[0], nil)
	}
	return all
}

// statedDefs returns the definitions that f needs.
func statedDefs(f api.Filter) []string {
	needed := map[string]bool{}
	todo := outerCalls(f, nil)
	for len(todo) > 0 {
		s := todo[0]
		todo = todo[1:]
		if !needed[s] {
			needed[s] = true
			todo = append(todo, statedCalls[s]...)
		}
	}
	var l []string
	for _, d := range statedPrelude {
		if s := ownNames(d)[0]; needed[s] {
			l = append(l, s)
		}
	}
	return l
}

// expectStated expects what the second statement says, and returns the error.
func expectStated(t *testing.T, f api.Filter) api.Errno {
	t.Helper()
	place, e := check.Check(f)
	if e != api.OK {
		expectError(t, f, e, place...)
		return e
	}
	core := statedNodes(f)
	expect(t, f, core, statedDefs(core)...)
	return api.OK
}

// maker makes random nodes that are printable.
type maker struct{ r *rand.Rand }

func pick[T any](m maker, l []T) T { return l[m.r.Intn(len(l))] }

// words are functions of the prelude, others and names of no function.
func words() []string {
	return []string{"a", "map", "select", "recurse", "recurse", "range", "nth", "last", "limit", "walk", "paths", "paths", "leaf_paths", "flatten", "flatten", "with_entries", "map_values", "any", "isempty", "combinations", "length", "has"}
}

func (m maker) params() []string {
	var l []string
	for range m.r.Intn(3) {
		l = append(l, pick(m, []string{pick(m, words()), "$a", "$paths"}))
	}
	return l
}

type kind struct{ op, size int }

func leaves() []kind {
	return []kind{{api.OpCall, 0}, {api.OpCall, 0}, {api.OpCall, 0}, {api.OpRecurse, 0}, {api.OpIdentity, 0}, {api.OpVar, 0}, {api.OpLiteral, 0}, {api.OpBreak, 0}, {api.OpArray, 0}, {api.OpObject, 0}, {api.OpInputs, 0}}
}

func inner() []kind {
	return []kind{
		{api.OpDef, 2}, {api.OpDef, 2}, {api.OpDef, 2}, {api.OpDef, 2}, {api.OpCall, 1}, {api.OpCall, 1}, {api.OpCall, 1}, {api.OpCall, 2}, {api.OpField, 1}, {api.OpField, 1}, {api.OpUpdate, 2}, {api.OpUpdate, 2}, {api.OpPipe, 2}, {api.OpComma, 2}, {api.OpIndex, 2}, {api.OpSlice, 3}, {api.OpIterate, 1}, {api.OpArray, 1}, {api.OpObject, 2}, {api.OpObject, 4}, {api.OpNeg, 1}, {api.OpAlt, 2}, {api.OpOr, 2}, {api.OpAnd, 2}, {api.OpBinary, 2},
		{api.OpIf, 3}, {api.OpTry, 1}, {api.OpTry, 2}, {api.OpReduce, 3}, {api.OpForeach, 4}, {api.OpLabel, 1}, {api.OpBind, 2},
	}
}

func (m maker) build(k kind, sub func() api.Filter) api.Filter {
	f := api.Filter{Op: k.op}
	for range k.size {
		f.Subs = append(f.Subs, sub())
	}
	switch k.op {
	case api.OpField:
		f.Text = pick(m, []string{"a", "paths", "", "if", "é b", ".."})
	case api.OpVar, api.OpReduce, api.OpForeach, api.OpLabel, api.OpBreak, api.OpBind:
		f.Text = pick(m, []string{"a", "paths"})
	case api.OpCall:
		f.Text = pick(m, words())
	case api.OpDef:
		f.Text, f.Params = pick(m, words()), m.params()
	case api.OpBinary:
		f.Text = pick(m, []string{"+", "==", "%"})
	case api.OpUpdate:
		f.Text = pick(m, quoted()[1:])
	case api.OpLiteral:
		f.Value = pick(m, []api.Value{{}, {Kind: api.True}, {Kind: api.Number, Int: 7}, {Kind: api.String, Str: "paths"}})
	}
	return f
}

// random returns a node of at most the given depth.
func (m maker) random(depth int) api.Filter {
	if depth == 0 || m.r.Intn(8) == 0 {
		return m.build(pick(m, leaves()), nil)
	}
	return m.build(pick(m, inner()), func() api.Filter { return m.random(depth - 1) })
}

// any returns a random node, or a fold.
func (m maker) any(depth int) api.Filter {
	f := m.random(depth)
	if m.r.Intn(5) == 0 {
		f = named(api.OpReduce, "a", n(api.OpInputs), m.random(depth-1), f)
		if m.r.Intn(2) == 0 {
			f = def(pick(m, words()), "", m.random(depth-1), f)
		}
	}
	return f
}

// at returns the node of f with the given place.
func at(f *api.Filter, place []int) *api.Filter {
	for _, i := range place {
		f = &f.Subs[i]
	}
	return f
}

// repaired replaces the nodes of f that have errors until f is well-formed.
func repaired(f api.Filter) api.Filter {
	for {
		place, e := check.Check(f)
		if e != api.OK {
			*at(&f, place) = dot
			continue
		}
		return f
	}
}

func TestP14_2RandomNodes(t *testing.T) {
	m := maker{rand.New(rand.NewSource(141))}
	found := map[api.Errno]int{}
	defs := map[string]int{}
	for range 2500 {
		f := m.any(1 + m.r.Intn(5))
		found[expectStated(t, f)]++
		f = repaired(f)
		found[expectStated(t, f)]++
		core, _, _ := Core(f)
		l, _ := signatures(core)
		for _, s := range l {
			defs[s]++
		}
	}
	for _, e := range []api.Errno{api.OK, api.ErrName, api.ErrArity} {
		if found[e] < 500 {
			t.Errorf("error %d was found %d times", e, found[e])
		}
	}
	for _, s := range []string{"../0", "=/2", "|=/2", "%=/2", "recurse/0", "recurse/1", "paths/0", "isempty/1", "select/1", "flatten/0"} {
		if defs[s] < 100 {
			t.Errorf("%s was found %d times", s, defs[s])
		}
	}
}

// A broken node is an error of check.Check, also within others.
func TestP14_2DamagedNodes(t *testing.T) {
	m := maker{rand.New(rand.NewSource(142))}
	found := map[api.Errno]int{}
	for range 6000 {
		f := repaired(m.any(1 + m.r.Intn(4)))
		g := &f
		for len(g.Subs) > 0 && m.r.Intn(4) > 0 {
			g = &g.Subs[m.r.Intn(len(g.Subs))]
		}
		switch m.r.Intn(5) {
		case 0:
			g.Op = m.r.Intn(30)
		case 1:
			g.Text = pick(m, []string{"", "..", "=", "if", "inputs", "map", "a b", strings.Repeat("n", api.MaxName+1)})
		case 2:
			g.Params = pick(m, [][]string{nil, {"a"}, {"$"}, {"paths"}, {"$if"}})
		case 3:
			g.Subs = append(g.Subs, m.random(1))
		case 4:
			g.Subs = g.Subs[:len(g.Subs)/2]
		}
		found[expectStated(t, f)]++
	}
	for _, e := range []api.Errno{api.OK, api.ErrName, api.ErrArity, api.ErrInvalid} {
		if found[e] < 50 {
			t.Errorf("error %d was found %d times", e, found[e])
		}
	}
}

// Core filters do not contain OpField, OpRecurse and OpUpdate.
func TestConsequenceCoreNodes(t *testing.T) {
	m := maker{rand.New(rand.NewSource(143))}
	for range 2000 {
		f := repaired(m.any(4))
		core, _, _ := Core(f)
		for _, g := range nodesOf(core) {
			if slices.Contains(sugar(), g.Op) {
				t.Errorf("Core(%s) contains %s", show(f), show(g))
			}
		}
	}
}

// A well-formed filter of core nodes stays what it is, within definitions.
func TestConsequenceCoreOfCoreNodes(t *testing.T) {
	m := maker{rand.New(rand.NewSource(144))}
	kept := 0
	for range 6000 {
		f := repaired(m.any(3))
		if slices.ContainsFunc(nodesOf(f), func(g api.Filter) bool { return slices.Contains(sugar(), g.Op) }) {
			continue
		}
		kept++
		expect(t, f, f, statedDefs(f)...)
	}
	if kept < 500 {
		t.Errorf("%d filters consisted of core nodes", kept)
	}
}

func samples() []string {
	return []string{
		".a", "map(.x)", ".. | .a += 1", "def map(f): f; with_entries(.a) | map(1)", "def f(recurse): recurse; f(recurse)", "reduce inputs as $x (0; . + $x.a)", "[paths] | leaf_paths", "label $out | try break $out catch .a = 1", "nth(1; ..) |= walk(.)", "def f: f(1); f", "$x",
		"{a, \"b\": .c, (.d): ..}?", "foreach .[] as $x (0; .a; $x.b)", "if .a then .. elif .b then flatten end", "def paths: 1; leaf_paths, paths",
	}
}

// FuzzCore runs on its seeds with go test, and goes on from them with go test -fuzz.
func FuzzCore(f *testing.F) {
	m := maker{rand.New(rand.NewSource(145))}
	for _, s := range samples() {
		f.Add(s)
	}
	for range 200 {
		f.Add(fprint.Print(m.any(3)))
	}
	f.Fuzz(func(t *testing.T, s string) {
		if g, _, e := fparse.Parse(s); e == api.OK {
			expectStated(t, g)
		}
	})
}
