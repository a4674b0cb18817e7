package check

import (
	"slices"
	"strconv"
	"strings"
	"testing"

	"ndjq/api"
)

// nested returns f with others around it, of which wrap makes the one that is given the levels within it.
func nested(levels int, f api.Filter, wrap func(level int, f api.Filter) api.Filter) api.Filter {
	for level := range levels {
		f = wrap(level, f)
	}
	return f
}

func numbered(level int) string { return "x" + strconv.Itoa(level) }

// As many levels of nesting as the document names are examined; all of them may introduce other names.
func TestP13_1LevelsOfNesting(t *testing.T) {
	for _, x := range []struct {
		wrap  func(int, api.Filter) api.Filter
		index int
	}{
		{func(_ int, f api.Filter) api.Filter { return n(api.OpArray, f) }, 0}, {func(_ int, f api.Filter) api.Filter { return n(api.OpPipe, dot, f) }, 1}, {func(_ int, f api.Filter) api.Filter { return n(api.OpIf, dot, dot, f) }, 2}, {func(_ int, f api.Filter) api.Filter { return call("map", f) }, 0},
		{func(i int, f api.Filter) api.Filter { return named(api.OpBind, numbered(i), dot, f) }, 1}, {func(i int, f api.Filter) api.Filter { return named(api.OpReduce, numbered(i), dot, dot, f) }, 2}, {func(i int, f api.Filter) api.Filter { return named(api.OpForeach, numbered(i), dot, dot, f, dot) }, 2},
		{func(i int, f api.Filter) api.Filter { return named(api.OpLabel, numbered(i), f) }, 0}, {func(i int, f api.Filter) api.Filter { return def(numbered(i), "", dot, f) }, 1}, {func(i int, f api.Filter) api.Filter { return def("f", numbered(i)+" $"+numbered(i), f, dot) }, 0},
	} {
		for _, levels := range []int{1, 64, 65, 5000} {
			place := slices.Repeat([]int{x.index}, levels)
			expect(t, nested(levels, dot, x.wrap), api.OK)
			for _, f := range []api.Filter{named(api.OpVar, "y"), named(api.OpBreak, "y"), call("y"), inputs} {
				expect(t, nested(levels, f, x.wrap), api.ErrName, place...)
			}
			expect(t, nested(levels, call("range"), x.wrap), api.ErrArity, place...)
			expect(t, nested(levels, n(0), x.wrap), api.ErrInvalid)
		}
		expect(t, nested(1<<16, dot, x.wrap), api.OK)
		expect(t, nested(1<<16, named(api.OpVar, "y"), x.wrap), api.ErrName, slices.Repeat([]int{x.index}, 1<<16)...)
		expect(t, nested(1<<16+1, dot, x.wrap), api.ErrInvalid)
	}
}

// All names of many nodes around a node are known, the outermost and the innermost ones too.
func TestP13_1ManyScopes(t *testing.T) {
	for _, levels := range []int{1, 63, 64, 65, 150, 300} {
		bind := func(i int, f api.Filter) api.Filter { return named(api.OpBind, numbered(i), dot, f) }
		label := func(i int, f api.Filter) api.Filter { return named(api.OpLabel, numbered(i), f) }
		define := func(i int, f api.Filter) api.Filter { return def(numbered(i), "a $b", dot, f) }
		params := func(i int, f api.Filter) api.Filter { return def("f", numbered(i)+" $"+numbered(i), f, dot) }
		for level := range levels {
			name := numbered(level)
			expect(t, nested(levels, named(api.OpVar, name), bind), api.OK)
			expect(t, nested(levels, named(api.OpBreak, name), label), api.OK)
			expect(t, nested(levels, call(name, dot, dot), define), api.OK)
			expect(t, nested(levels, n(api.OpComma, call(name), named(api.OpVar, name)), params), api.OK)
		}
		expect(t, nested(levels, named(api.OpVar, numbered(levels)), bind), api.ErrName, slices.Repeat([]int{1}, levels)...)
		expect(t, nested(levels, call(numbered(0)), define), api.ErrArity, slices.Repeat([]int{1}, levels)...)
	}
}

// A name that a node introduces is not known behind it, however many names are known there.
func TestP13_1ScopesEnd(t *testing.T) {
	for _, levels := range []int{0, 1, 62, 63, 64, 65, 127, 128, 500} {
		bind := func(i int, f api.Filter) api.Filter { return named(api.OpBind, numbered(i), dot, f) }
		inner := def("g", "$y", named(api.OpVar, "y"), named(api.OpBind, "z", dot, named(api.OpVar, "z")))
		for _, use := range []api.Filter{named(api.OpVar, "y"), named(api.OpVar, "z"), call("g")} {
			place := slices.Repeat([]int{1}, levels+1)
			expect(t, nested(levels, n(api.OpComma, inner, use), bind), api.ErrName, place...)
		}
		for _, index := range []int{0, 1} {
			f := def("g", "y $y", dot, dot)
			f.Subs[index] = n(api.OpArray, call("y"))
			if index == 0 {
				expect(t, nested(levels, f, bind), api.OK)
				continue
			}
			expect(t, nested(levels, f, bind), api.ErrName, append(slices.Repeat([]int{1}, levels), 1, 0)...)
		}
	}
}

// Folds may be within as many definitions as there are levels.
func TestLevelsOfFolds(t *testing.T) {
	fold := named(api.OpReduce, "x", inputs, dot, named(api.OpVar, "x"))
	define := func(_ int, f api.Filter) api.Filter { return def("f", "", dot, f) }
	for _, levels := range []int{0, 1, 2, 100, 5000, 1<<16 - 1} {
		f := nested(levels, fold, define)
		expect(t, f, api.OK)
		if !Fold(f) {
			t.Errorf("a reduce in %d definitions is no fold", levels)
		}
		f = nested(levels, n(api.OpArray, fold), define)
		if levels < 1<<16-1 {
			expect(t, f, api.ErrName, append(slices.Repeat([]int{1}, levels), 0, 0)...)
		}
		if Fold(f) {
			t.Errorf("an array in %d definitions is a fold", levels)
		}
	}
}

// A node that contains itself is not valid, but the functions end.
func TestNodesInThemselves(t *testing.T) {
	for _, k := range kinds {
		for place := range k.size {
			f := sampleOf(k)
			f.Subs[place] = f
			expectEnd(t, f)
			g := sampleOf(k)
			g.Subs[place] = n(api.OpArray, n(api.OpComma, f, n(api.OpTry, g)))
			expectEnd(t, g)
		}
	}
}

func sampleOf(k kind) api.Filter {
	text := map[int]string{api.OpBinary: "+", api.OpUpdate: "="}[k.op]
	if strings.Contains("8 20 21 22 23 24 25 26 ", strconv.Itoa(k.op)+" ") {
		text = "f"
	}
	return named(k.op, text, slices.Repeat([]api.Filter{dot}, k.size)...)
}

func expectEnd(t *testing.T, f api.Filter) {
	t.Helper()
	if place, e := Check(f); e != api.ErrInvalid || len(place) > 0 || Fold(f) {
		t.Errorf("a node with the operator %d that contains itself: error %d", f.Op, e)
	}
}

// Nodes may have many elements, and their indexes are those of the place.
func TestP13_1ManyElements(t *testing.T) {
	many := slices.Repeat([]api.Filter{dot}, 100000)
	many[99998] = n(api.OpArray, named(api.OpVar, "x"))
	expect(t, n(api.OpObject, many...), api.ErrName, 99998, 0)
	expect(t, named(api.OpBind, "x", dot, n(api.OpObject, many...)), api.OK)
	expect(t, call("f", many...), api.ErrName)
	expect(t, call("map", many...), api.ErrArity)
}

// Names of the greatest length that differ in their last byte only are different.
func TestP13_1LongNames(t *testing.T) {
	long := strings.Repeat("n", api.MaxName-1)
	expect(t, named(api.OpBind, long+"a", dot, named(api.OpVar, long+"a")), api.OK)
	expect(t, named(api.OpBind, long+"a", dot, named(api.OpVar, long+"b")), api.ErrName, 1)
	expect(t, named(api.OpBind, long+"a", dot, named(api.OpVar, long)), api.ErrName, 1)
	expect(t, named(api.OpBind, long+"aa", dot, dot), api.ErrInvalid)
	expect(t, def(long+"a", "", dot, call(long+"a")), api.OK)
	expect(t, def(long+"a", "", dot, call(long+"b")), api.ErrName, 1)
	expect(t, def("f", "a b c d e f g $"+long+"a", named(api.OpVar, long+"a"), dot), api.OK)
	expect(t, def("f", "a b c d e f g "+long+"a", call(long+"b"), dot), api.ErrName, 0)
}
