package fprint

import (
	"strings"
	"testing"

	"ndjq/api"
	"ndjq/fparse"
)

// nested returns f with n others around it.
func nested(n int, f api.Filter, wrap func(api.Filter) api.Filter) api.Filter {
	for range n {
		f = wrap(f)
	}
	return f
}

// As many levels of nesting as the document names are written.
func TestP12_1LevelsOfNesting(t *testing.T) {
	for _, x := range []struct {
		wrap           func(api.Filter) api.Filter
		before, behind string
	}{
		{func(f api.Filter) api.Filter { return n(api.OpArray, f) }, "[", "]"}, {func(f api.Filter) api.Filter { return n(api.OpTry, f) }, "", "?"}, {func(f api.Filter) api.Filter { return n(api.OpIterate, f) }, "", "[]"}, {func(f api.Filter) api.Filter { return call("f", one, f) }, "f(1; ", ")"},
		{func(f api.Filter) api.Filter { return n(api.OpObject, one, f) }, "{(1): ", "}"}, {func(f api.Filter) api.Filter { return def("f", "", f, one) }, "def f: ", "; 1"}, {func(f api.Filter) api.Filter { return named(api.OpBind, "x", one, f) }, "1 as $x | ", ""}, {func(f api.Filter) api.Filter { return named(api.OpLabel, "x", f) }, "label $x | ", ""},
		{func(f api.Filter) api.Filter { return n(api.OpIf, one, two, f) }, "if 1 then 2 else ", " end"}, {func(f api.Filter) api.Filter { return n(api.OpIndex, f, dot) }, "", "[.]"}, {func(f api.Filter) api.Filter { return named(api.OpForeach, "x", one, two, f, three) }, "foreach 1 as $x (2; ", "; 3)"},
	} {
		for _, levels := range []int{100, 2000, 1 << 16} {
			expect(t, nested(levels, rec, x.wrap), strings.Repeat(x.before, levels)+".."+strings.Repeat(x.behind, levels))
			expectNone(t, nested(levels, broken(), x.wrap))
		}
	}
	for _, levels := range []int{100, 2000, 1 << 16} {
		pipe := func(f api.Filter) api.Filter { return n(api.OpPipe, dot, f) }
		expect(t, nested(levels, dot, pipe), strings.Repeat(". | (", levels-1)+". | ."+strings.Repeat(")", levels-1))
		neg := func(f api.Filter) api.Filter { return n(api.OpNeg, f) }
		expect(t, nested(levels, dot, neg), strings.Repeat("-(", levels-1)+"-."+strings.Repeat(")", levels-1))
	}
}

// broken is a node that is not printable.
func broken() api.Filter { return n(api.OpIdentity, dot) }

// A node that contains itself has no text, but the functions end.
func TestNodesInThemselves(t *testing.T) {
	for _, k := range kinds() {
		for place := range k.size {
			f := sampleOf(k.op, k.size)
			f.Subs[place] = f
			expectEnd(t, f)
			g := sampleOf(k.op, k.size)
			g.Subs[place] = n(api.OpArray, n(api.OpComma, f, n(api.OpTry, g)))
			expectEnd(t, g)
		}
		if k.size > 0 {
			f := sampleOf(k.op, k.size)
			for place := range k.size {
				f.Subs[place] = f
			}
			expectEnd(t, f)
		}
	}
	x := api.Value{Kind: api.Array, Elems: make([]api.Value, 2)}
	x.Elems[0], x.Elems[1] = x, x
	expectEnd(t, lit(x))
}

func expectEnd(t *testing.T, f api.Filter) {
	t.Helper()
	if Printable(f) || Print(f) != "" {
		t.Errorf("a node with the operator %d that contains itself is printable", f.Op)
	}
}

// One slice may stand in many places.
func TestNodesInManyPlaces(t *testing.T) {
	f, want := dot, "."
	for i := range 15 {
		f = n(api.OpComma, f, f)
		if i > 0 {
			want = "(" + want + ")"
		}
		want += ", " + want
	}
	expect(t, f, want)
}

// The text of a node may be longer than the text of a filter.
func TestP12_1LongTexts(t *testing.T) {
	many := make([]api.Filter, 100000)
	for i := range many {
		many[i] = str("abcdefgh")
	}
	list := strings.Repeat("\"abcdefgh\"; ", len(many))
	expect(t, call("f", many...), "f("+list[:len(list)-2]+")")
	members := strings.Repeat("(\"abcdefgh\"): \"abcdefgh\", ", len(many)/2)
	expect(t, n(api.OpObject, many...), "{"+members[:len(members)-2]+"}")
}

// Texts at the limits of flex are read as their nodes, and those beyond are not.
func TestConsequenceLimits(t *testing.T) {
	for size, want := range map[int]api.Errno{2047: api.OK, 2048: api.ErrLimit} {
		f := nested(size, dot, func(f api.Filter) api.Filter { return n(api.OpTry, f) })
		g, _, e := fparse.Parse(Print(f))
		if e != want || e == api.OK && !equal(f, g) {
			t.Errorf("the text of %d tokens: error %d", size+1, e)
		}
	}
	long := strings.Repeat("a", api.MaxString)
	for s, want := range map[string]api.Errno{long[:api.MaxString-8]: api.OK, long[:api.MaxString-7]: api.OK, long[:api.MaxString-6]: api.ErrLimit, long: api.ErrLimit} {
		f := n(api.OpPipe, str(s), str(long))
		g, _, e := fparse.Parse(Print(f))
		if e != want || e == api.OK && !equal(f, g) {
			t.Errorf("the text of %d bytes: error %d", len(Print(f)), e)
		}
	}
}
