package check

import (
	"math/rand"
	"slices"
	"strings"
	"testing"

	"ndjq/api"
)

// equal compares all fields; a nil slice and an empty one are equal.
func equal(f, g api.Filter) bool {
	return f.Op == g.Op && f.Text == g.Text && f.Value.Kind == g.Value.Kind && f.Value.Int == g.Value.Int && f.Value.Str == g.Value.Str && slices.Equal(f.Params, g.Params) && slices.EqualFunc(f.Subs, g.Subs, equal)
}

// spaced returns a copy of f whose slices have spare capacity with something in it.
func spaced(f api.Filter) api.Filter {
	out := f
	out.Text = strings.Clone(f.Text)
	out.Subs = make([]api.Filter, 0, len(f.Subs)+3)
	for _, sub := range f.Subs {
		out.Subs = append(out.Subs, spaced(sub))
	}
	out.Params = append(make([]string, 0, len(f.Params)+3), f.Params...)
	for i := range out.Subs[len(f.Subs):cap(out.Subs)] {
		out.Subs[len(f.Subs):cap(out.Subs)][i] = api.Filter{Op: 77, Text: "spare"}
	}
	for i := range out.Params[len(f.Params):cap(out.Params)] {
		out.Params[len(f.Params):cap(out.Params)][i] = "spare"
	}
	return out
}

func isMarked(f api.Filter) bool {
	subs, params := f.Subs[len(f.Subs):cap(f.Subs)], f.Params[len(f.Params):cap(f.Params)]
	return !slices.ContainsFunc(subs, func(sub api.Filter) bool { return !equal(sub, api.Filter{Op: 77, Text: "spare"}) }) &&
		!slices.ContainsFunc(params, func(s string) bool { return s != "spare" }) &&
		!slices.ContainsFunc(f.Subs, func(sub api.Filter) bool { return !isMarked(sub) })
}

func TestArgumentsAreNotModified(t *testing.T) {
	m := maker{rand.New(rand.NewSource(36))}
	for range 3000 {
		f := m.any(3)
		if m.r.Intn(2) == 0 {
			f = repaired(f)
		}
		if m.r.Intn(3) == 0 {
			m.damage(at(&f, pick(m, nodesOf(within{f: f})).place))
		}
		g := spaced(f)
		place, e := Check(g)
		expect(t, f, e, place...)
		if Fold(g) != Fold(f) {
			t.Errorf("Fold(%s) depends on the capacity", show(f))
		}
		if !equal(f, g) || !isMarked(g) {
			t.Errorf("%s was modified: %s", show(f), show(g))
		}
	}
}

// What is done to a result, and to an argument after a call, has no effect on another one.
func TestResultsAreNewMemory(t *testing.T) {
	f := parse(t, "def f(a; $b): 1; [2, [$x]]")
	place, _ := Check(f)
	other, _ := Check(f)
	clear(place[:cap(place)])
	if want := []int{1, 0, 1, 0}; !slices.Equal(other, want) {
		t.Errorf("the place became %v, not %v", other, want)
	}
	expect(t, f, api.ErrName, 1, 0, 1, 0)
	f.Subs[1] = call("f", dot, dot)
	f.Params[0] = "c"
	expect(t, f, api.OK)
	if want := []int{1, 0, 1, 0}; !slices.Equal(other, want) {
		t.Errorf("the place became %v, not %v", other, want)
	}
	l, next := Builtins(), Builtins()
	clear(l[:cap(l)])
	if !slices.Equal(next, statedList) || !slices.Equal(Builtins(), statedList) {
		t.Errorf("the builtins became %q", next)
	}
	expect(t, call("map", dot), api.OK)
}

// What one filter defines is not known in the next one.
func TestCallsAreIndependent(t *testing.T) {
	for range 2 {
		expect(t, parse(t, "def f: 1; def map: 2; . as $x | label $y | f, map, $x, break $y"), api.OK)
		for _, s := range []string{"f", "$x", "break $y"} {
			expect(t, parse(t, s), api.ErrName)
		}
		expect(t, parse(t, "map"), api.ErrArity)
	}
	m := maker{rand.New(rand.NewSource(37))}
	var l []api.Filter
	for range 300 {
		l = append(l, m.any(3), repaired(m.any(3)))
	}
	done := make(chan struct{})
	for range 4 {
		go func() {
			for _, f := range l {
				expectStated(t, f)
			}
			done <- struct{}{}
		}()
	}
	for range 4 {
		<-done
	}
}
