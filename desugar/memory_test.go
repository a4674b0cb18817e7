package desugar

import (
	"math/rand"
	"runtime"
	"slices"
	"strings"
	"testing"
	"unsafe"

	"ndjq/api"
)

// spaced returns a copy of f whose slices, also those that are empty, have spare capacity with something in it.
func spaced(f api.Filter) api.Filter {
	out := f
	out.Text = strings.Clone(f.Text)
	out.Subs = make([]api.Filter, 0, len(f.Subs)+3)
	for _, sub := range f.Subs {
		out.Subs = append(out.Subs, spaced(sub))
	}
	out.Params = append(make([]string, 0, len(f.Params)+3), f.Params...)
	out.Value.Keys = make([]string, 0, 2)
	out.Value.Elems = make([]api.Value, 0, 2)
	mark(out)
	return out
}

// mark fills the spare capacity of the slices of f itself.
func mark(f api.Filter) {
	spare := f.Subs[len(f.Subs):cap(f.Subs)]
	for i := range spare {
		spare[i] = api.Filter{Op: 77, Text: "spare"}
	}
	for _, l := range [][]string{f.Params[len(f.Params):cap(f.Params)], f.Value.Keys[:cap(f.Value.Keys)]} {
		for i := range l {
			l[i] = "spare"
		}
	}
	elems := f.Value.Elems[:cap(f.Value.Elems)]
	for i := range elems {
		elems[i] = api.Value{Kind: 77, Str: "spare"}
	}
}

func isMarked(f api.Filter) bool {
	isSpare := func(s string) bool { return s != "spare" }
	return !slices.ContainsFunc(f.Subs[len(f.Subs):cap(f.Subs)], func(sub api.Filter) bool { return !equal(sub, api.Filter{Op: 77, Text: "spare"}) }) &&
		!slices.ContainsFunc(f.Params[len(f.Params):cap(f.Params)], isSpare) && !slices.ContainsFunc(f.Value.Keys[:cap(f.Value.Keys)], isSpare) &&
		!slices.ContainsFunc(f.Value.Elems[:cap(f.Value.Elems)], func(v api.Value) bool { return v.Kind != 77 || v.Str != "spare" }) &&
		!slices.ContainsFunc(f.Subs, func(sub api.Filter) bool { return !isMarked(sub) })
}

func TestArgumentsAreNotModified(t *testing.T) {
	m := maker{rand.New(rand.NewSource(146))}
	for range 1000 {
		f := m.any(3)
		if m.r.Intn(3) > 0 {
			f = repaired(f)
		}
		g := spaced(f)
		expectStated(t, g)
		if core, _, _ := Core(g); !equal(f, g) || !isMarked(g) {
			t.Errorf("Core modified %s: %s, %s", show(f), show(g), show(core))
		}
	}
}

// memory collects the ranges of addresses of slices, spare capacity included.
type memory [][2]uintptr

func add[T any](m *memory, l []T) {
	if cap(l) > 0 {
		from := uintptr(unsafe.Pointer(unsafe.SliceData(l)))
		*m = append(*m, [2]uintptr{from, from + uintptr(cap(l))*unsafe.Sizeof(l[:1][0])})
	}
}

func (m *memory) visit(f api.Filter) {
	add(m, f.Subs)
	add(m, f.Params)
	add(m, f.Value.Keys)
	add(m, f.Value.Elems)
	for _, sub := range f.Subs {
		m.visit(sub)
	}
}

// isShared reports whether two slices in the filters overlap.
func isShared(l ...api.Filter) bool {
	var m memory
	for _, f := range l {
		m.visit(f)
	}
	// Memory that is not held any more could be used again.
	defer runtime.KeepAlive(l)
	slices.SortFunc(m, func(a, b [2]uintptr) int { return slices.Compare(a[:], b[:]) })
	for i := 1; i < len(m); i++ {
		if m[i][0] < m[i-1][1] {
			return true
		}
	}
	return false
}

// No two slices of arguments and results share memory, spare capacity included.
func TestResultsAreNewMemory(t *testing.T) {
	m := maker{rand.New(rand.NewSource(147))}
	l := []api.Filter{parse(t, "leaf_paths, walk(.a) | .b += nth(1; 2)"), n(api.OpPipe, n(api.OpRecurse), n(api.OpRecurse))}
	for range 500 {
		l = append(l, repaired(m.any(3)))
	}
	for _, f := range l {
		held := []api.Filter{spaced(f)}
		for range 2 {
			core, _, _ := Core(held[0])
			held = append(append(held, core), Prelude()...)
		}
		if isShared(held...) {
			t.Errorf("the results for %s share memory", show(f))
		}
	}
}

// An argument may use one slice for several elements; the result does not.
func TestSharedArguments(t *testing.T) {
	f := spaced(parse(t, "[.a, map(..)]"))
	for range 5 {
		f = n(api.OpComma, f, f)
	}
	expectStated(t, f)
	core, _, _ := Core(f)
	if isShared(core) {
		t.Error("the elements of the result share memory")
	}
}

// wreck changes every node of f.
func wreck(f api.Filter) {
	for i, sub := range f.Subs[:cap(f.Subs)] {
		if i < len(f.Subs) {
			wreck(sub)
		}
		f.Subs[:cap(f.Subs)][i] = api.Filter{Op: 99, Text: "wrecked"}
	}
	for i := range f.Params[:cap(f.Params)] {
		f.Params[:cap(f.Params)][i] = "wrecked"
	}
}

// What is done to a result, and to an argument after a call, has no effect on other results.
func TestCallsAreIndependent(t *testing.T) {
	for range 2 {
		f := spaced(parse(t, "def f(a; $b): .c; leaf_paths | walk(f(1; 2) |= ..)"))
		core, _, _ := Core(f)
		other, _, _ := Core(f)
		wreck(core)
		wreck(f)
		f = parse(t, "def f(a; $b): .c; leaf_paths | walk(f(1; 2) |= ..)")
		if want := wrapped(t, statedNodes(f), statedDefs(statedNodes(f))...); !equal(other, want) {
			t.Errorf("the result became %s", show(other))
		}
		l := Prelude()
		for _, d := range l {
			wreck(d)
		}
		clear(l[:cap(l)])
		if !slices.EqualFunc(Prelude(), statedPrelude, equal) {
			t.Error("the prelude was changed")
		}
		place := []int(nil)
		_, place, _ = Core(parse(t, "[1, [$x]]"))
		clear(place[:cap(place)])
		expectError(t, parse(t, "[1, [$x]]"), api.ErrName, 0, 1, 0)
	}
	expect(t, parse(t, "def map(f): f; map(1)"), parse(t, "def map(f): f; map(1)"))
	expect(t, parse(t, "map(1)"), parse(t, "map(1)"), "map/1")
}

func TestManyGoroutines(t *testing.T) {
	m := maker{rand.New(rand.NewSource(148))}
	var l []api.Filter
	for range 100 {
		l = append(l, spaced(m.any(3)), spaced(repaired(m.any(3))))
	}
	done := make(chan struct{})
	for range 4 {
		go func() {
			for _, f := range l {
				expectStated(t, f)
			}
			done <- struct{}{}
		}()
	}
	for range 4 {
		<-done
	}
}
