package fprint

import (
	"math/rand"
	"slices"
	"strings"
	"testing"
	"unsafe"

	"ndjq/api"
)

// spaced returns a copy of f whose slices have spare capacity with something in it.
func spaced(f api.Filter) api.Filter {
	out := f
	out.Text = strings.Clone(f.Text)
	out.Subs = make([]api.Filter, 0, len(f.Subs)+3)
	for _, sub := range f.Subs {
		out.Subs = append(out.Subs, spaced(sub))
	}
	out.Params = append(make([]string, 0, len(f.Params)+3), f.Params...)
	mark(out)
	return out
}

func mark(f api.Filter) {
	subs, params := f.Subs[len(f.Subs):cap(f.Subs)], f.Params[len(f.Params):cap(f.Params)]
	for i := range subs {
		subs[i] = api.Filter{Op: 77, Text: "spare"}
	}
	for i := range params {
		params[i] = "spare"
	}
}

func isMarked(f api.Filter) bool {
	subs, params := f.Subs[len(f.Subs):cap(f.Subs)], f.Params[len(f.Params):cap(f.Params)]
	return !slices.ContainsFunc(subs, func(sub api.Filter) bool { return !equal(sub, api.Filter{Op: 77, Text: "spare"}) }) &&
		!slices.ContainsFunc(params, func(s string) bool { return s != "spare" }) &&
		!slices.ContainsFunc(f.Subs, func(sub api.Filter) bool { return !isMarked(sub) })
}

func TestArgumentsAreNotModified(t *testing.T) {
	m := maker{rand.New(rand.NewSource(26))}
	for range 3000 {
		f := m.random(3)
		if m.r.Intn(3) == 0 {
			m.damage(m.somewhere(&f))
		}
		g := spaced(f)
		if Printable(g) != Printable(f) || Print(g) != Print(f) {
			t.Errorf("the results for %s depend on the capacity", show(f))
		}
		if !equal(f, g) || !isMarked(g) {
			t.Errorf("%s was modified: %s", show(f), show(g))
		}
	}
}

func shareMemory(a, b string) bool {
	from, other := uintptr(unsafe.Pointer(unsafe.StringData(a))), uintptr(unsafe.Pointer(unsafe.StringData(b)))
	return len(a) > 0 && len(b) > 0 && from < other+uintptr(len(b)) && other < from+uintptr(len(a))
}

// textsOf are the strings of a node.
func textsOf(f api.Filter) []string {
	l := append([]string{f.Text, f.Value.Str}, f.Params...)
	for _, sub := range f.Subs {
		l = append(l, textsOf(sub)...)
	}
	return l
}

func TestResultsAreNewMemory(t *testing.T) {
	m := maker{rand.New(rand.NewSource(27))}
	for range 3000 {
		f := m.random(m.r.Intn(3))
		s, other := Print(f), Print(f)
		if s != other {
			t.Errorf("Print(%s) = %s, and then %s", show(f), brief(s), brief(other))
		}
		if shareMemory(s, other) {
			t.Errorf("two results %s share memory", brief(s))
		}
		for _, text := range textsOf(f) {
			if shareMemory(s, text) {
				t.Errorf("%s and the argument share memory", brief(s))
			}
		}
	}
}

// What is done to an argument after a call has no effect on its result.
func TestArgumentsAreNotRetained(t *testing.T) {
	f := def("f", "a $b", sum, call("f", one, two))
	s := Print(f)
	want := strings.Clone(s)
	f.Params[0], f.Subs[0], f.Subs[1].Subs[0] = "changed", dot, dot
	if s != want {
		t.Errorf("the result became %s", brief(s))
	}
	expect(t, f, "def f(changed; $b): .; f(.; 2)")
}

// Calls in several goroutines are independent of each other.
func TestCallsAreIndependent(t *testing.T) {
	m := maker{rand.New(rand.NewSource(28))}
	var l []api.Filter
	for range 200 {
		l = append(l, m.random(3))
	}
	done := make(chan []string)
	for range 4 {
		go func() {
			var out []string
			for _, f := range l {
				out = append(out, Print(f))
			}
			done <- out
		}()
	}
	for range 4 {
		for i, s := range <-done {
			if s != statedPrint(l[i]) {
				t.Errorf("Print(%s) = %s", show(l[i]), brief(s))
			}
		}
	}
}
