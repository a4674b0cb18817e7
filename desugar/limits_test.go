package desugar

import (
	"slices"
	"strconv"
	"strings"
	"testing"

	"ndjq/api"
)

// nested returns f with others around it, of which wrap makes the one that is given the levels within it.
func nested(levels int, f api.Filter, wrap func(level int, f api.Filter) api.Filter) api.Filter {
	for level := range levels {
		f = wrap(level, f)
	}
	return f
}

func numbered(level int) string { return "x" + strconv.Itoa(level) }

// As many levels of nesting as the document names are translated.
func TestP14_2LevelsOfNesting(t *testing.T) {
	field := func(_ int, f api.Filter) api.Filter { return named(api.OpField, "a", f) }
	index := func(_ int, f api.Filter) api.Filter { return n(api.OpIndex, f, literal("a")) }
	update := func(_ int, f api.Filter) api.Filter { return named(api.OpUpdate, "*=", dot, f) }
	updated := func(_ int, f api.Filter) api.Filter { return call("*=", dot, f) }
	define := func(i int, f api.Filter) api.Filter { return def(numbered(i), "$a", dot, f) }
	body := func(_ int, f api.Filter) api.Filter { return def("recurse", "f", f, dot) }
	array := func(_ int, f api.Filter) api.Filter { return n(api.OpArray, f) }
	for _, x := range []struct {
		wrap, want func(int, api.Filter) api.Filter
		defs       []string
		index      int
	}{
		{field, index, nil, 0}, {update, updated, []string{"|=/2", "*=/2"}, 1}, {define, define, nil, 1}, {body, body, nil, 0}, {array, array, nil, 0},
	} {
		for _, levels := range []int{1, 1000, 1<<16 - 1} {
			expect(t, nested(levels, dot, x.wrap), nested(levels, dot, x.want), x.defs...)
			expect(t, nested(levels, n(api.OpRecurse), x.wrap), nested(levels, call(".."), x.want), append([]string{"../0"}, x.defs...)...)
			expectError(t, nested(levels, variable("y"), x.wrap), api.ErrName, slices.Repeat([]int{x.index}, levels)...)
			expectError(t, nested(levels, n(0), x.wrap), api.ErrInvalid)
		}
	}
	// The recursive function is known on all levels, and the one without parameters on none.
	expect(t, nested(5000, call("recurse", dot), body), nested(5000, call("recurse", dot), body))
	expect(t, nested(5000, call("recurse"), body), nested(5000, call("recurse"), body), "recurse/0")
}

// A scope ends behind the definition that is in as many others as there are.
func TestP14_2ScopesEnd(t *testing.T) {
	wrap := func(_ int, f api.Filter) api.Filter {
		return def("map", "f paths", f, call("map", dot, call("map", dot, dot)))
	}
	for _, levels := range []int{1, 2, 1000} {
		f := nested(levels, call("paths"), wrap)
		expect(t, f, f)
		expect(t, n(api.OpComma, f, call("map", dot)), n(api.OpComma, f, call("map", dot)), "map/1")
		expect(t, n(api.OpComma, f, call("paths")), n(api.OpComma, f, call("paths")), "../0", "select/1", "paths/0")
		expect(t, n(api.OpComma, call("paths"), f), n(api.OpComma, call("paths"), f), "../0", "select/1", "paths/0")
	}
}

// A node that contains itself is not valid, but the function ends.
func TestNodesInThemselves(t *testing.T) {
	for _, k := range inner() {
		for place := range k.size {
			f := sampleOf(k)
			f.Subs[place] = f
			expectError(t, f, api.ErrInvalid)
			g := sampleOf(k)
			g.Subs[place] = n(api.OpArray, n(api.OpComma, f, n(api.OpTry, g)))
			expectError(t, g, api.ErrInvalid)
		}
	}
}

func sampleOf(k kind) api.Filter {
	text := map[int]string{api.OpBinary: "+", api.OpUpdate: "=", api.OpCall: "map", api.OpDef: "f", api.OpVar: "x", api.OpReduce: "x", api.OpForeach: "x", api.OpLabel: "x", api.OpBind: "x"}[k.op]
	return named(k.op, text, slices.Repeat([]api.Filter{dot}, k.size)...)
}

// Nodes may have many elements, all of which are translated and examined.
func TestP14_2ManyElements(t *testing.T) {
	many := slices.Repeat([]api.Filter{literal("k")}, 100000)
	want := slices.Clone(many)
	many[99999], want[99999] = named(api.OpField, "a", dot), n(api.OpIndex, dot, literal("a"))
	many[99998], want[99998] = call("flatten"), call("flatten")
	expect(t, n(api.OpObject, many...), n(api.OpObject, want...), "flatten/0")
	expect(t, def("f", strings.Repeat("a ", api.MaxParams), n(api.OpObject, many...), dot), def("f", strings.Repeat("a ", api.MaxParams), n(api.OpObject, want...), dot), "flatten/0")
	var all []string
	f := dot
	for _, d := range Prelude()[8:] {
		all = append(all, ownNames(d)[0])
		f = n(api.OpComma, f, call(d.Text, slices.Repeat([]api.Filter{dot}, len(d.Params))...))
	}
	expect(t, f, f, append([]string{"../0", "|=/2"}, all...)...)
}

// The names of fields may be as long as strings.
func TestP14_2LongNames(t *testing.T) {
	for _, s := range []string{strings.Repeat("a", api.MaxString), strings.Repeat("é", api.MaxString/2), strings.Repeat("\x00", api.MaxString)} {
		expect(t, named(api.OpField, s, dot), n(api.OpIndex, dot, literal(s)))
		expectError(t, named(api.OpField, s+"a", dot), api.ErrInvalid)
	}
	long := strings.Repeat("n", api.MaxName-1)
	f := def(long+"a", "map", call(long+"a", call("map")), call(long+"a", dot))
	expect(t, f, f)
}
