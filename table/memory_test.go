package table

import (
	"math"
	"slices"
	"testing"

	"ndjq/api"
	"ndjq/jsonwrite"
)

// spare returns l with spare capacity, which is full of values that are not valid.
func spare(l ...api.Value) []api.Value {
	whole := append(slices.Clone(l), many(api.Value{Kind: 77, Str: "spare"}, 3)...)
	return whole[:len(l)]
}

func spareKeys(keys ...string) []string {
	return append(slices.Clone(keys), "spare", "spare", "spare")[:len(keys)]
}

// room returns v with spare capacity in its slices, also in those that its kind does not use.
func room(v api.Value) api.Value {
	v.Keys, v.Elems = spareKeys(v.Keys...), spare(v.Elems...)
	return v
}

// roomy are values of all kinds with spare capacity. Some name one slice in several places.
func roomy() []api.Value {
	inner := room(obj([]string{"b", "c"}, room(num(1)), room(arr(room(num(2)), room(str("x"))))))
	list := room(arr(inner, inner, room(api.Value{}), room(arr(num(0), num(1)))))
	rows := room(arr(room(arr(inner, list)), room(arr(list)), room(arr())))
	given := room(entry(room(str("k")), list))
	return []api.Value{
		room(api.Value{}), room(api.Value{Kind: api.True}), room(num(0)), room(num(2)), room(num(math.MinInt64)), room(str("")), room(str("a")), room(str("aéa")), room(arr()), room(obj(nil)),
		room(arr(room(num(3)), room(num(1)), room(num(3)), room(num(2)))), room(arr(room(str("b")), room(str("a")), room(str("b")), room(api.Value{}))),
		inner, list, rows, room(arr(list, list, rows, list)), room(arr(inner, inner, room(obj([]string{"a"}, list)), inner)), room(arr(given, given, room(entry(room(num(7)), list)), room(obj([]string{"a"}, list)))), room(obj([]string{"a", "c"}, list, list)), room(obj([]string{"a", "b"}, inner, room(obj([]string{"c"}, rows)))), room(arr(list)), room(arr(room(api.Value{Kind: api.True}))),
	}
}

// spoil overwrites all slices of v with their spare capacity.
func spoil(v api.Value) {
	keys, elems := v.Keys[:cap(v.Keys)], v.Elems[:cap(v.Elems)]
	for i := range elems {
		spoil(elems[i])
		elems[i] = api.Value{Kind: 99, Int: 99}
	}
	for i := range keys {
		keys[i] = "spoiled"
	}
}

// same compares two values with the spare capacity of their slices.
func same(a, b api.Value) bool {
	if a.Kind != b.Kind || a.Int != b.Int || a.Str != b.Str || len(a.Keys) != len(b.Keys) || len(a.Elems) != len(b.Elems) {
		return false
	}
	return slices.Equal(a.Keys[:cap(a.Keys)], b.Keys[:cap(b.Keys)]) && slices.EqualFunc(a.Elems[:cap(a.Elems)], b.Elems[:cap(b.Elems)], same)
}

// places counts how often each element of a slice, also of its spare capacity, occurs in a value.
type places struct {
	keys  map[*string]int
	elems map[*api.Value]int
}

func (p places) count(v api.Value) {
	keys, elems := v.Keys[:cap(v.Keys)], v.Elems[:cap(v.Elems)]
	for i := range keys {
		p.keys[&keys[i]]++
	}
	for i := range elems {
		p.elems[&elems[i]]++
		p.count(elems[i])
	}
}

func sharesWithin(v api.Value) bool {
	p := places{map[*string]int{}, map[*api.Value]int{}}
	p.count(v)
	for _, n := range p.keys {
		if n > 1 {
			return true
		}
	}
	for _, n := range p.elems {
		if n > 1 {
			return true
		}
	}
	return false
}

// calls are the functions of the package as functions of two arguments.
func calls() map[string]binary {
	all := binaries()
	for name, f := range unaries() {
		all[name] = func(v, _ api.Value) (api.Value, api.Errno) { return f(v) }
	}
	return all
}

// expectNew expects that a call changes no argument, and that its results share no memory with an argument, with each other or within themselves.
// It reports whether the call returns no error.
func expectNew(t *testing.T, name string, i, j int) bool {
	t.Helper()
	f := calls()[name]
	v, w, freshV, freshW := roomy()[i], roomy()[j], roomy()[i], roomy()[j]
	first, e := f(v, w)
	second, _ := f(v, w)
	if !same(v, freshV) || !same(w, freshW) {
		t.Errorf("%s of %d, %d changes an argument", name, i, j)
	}
	if sharesWithin(first) {
		t.Errorf("%s of %d, %d shares memory within a result", name, i, j)
	}
	want := outcome(second, e)
	spoil(first)
	if !same(v, freshV) || !same(w, freshW) {
		t.Errorf("%s of %d, %d shares memory with an argument", name, i, j)
	}
	spoil(v)
	spoil(w)
	if got := outcome(second, e); got != want {
		t.Errorf("%s of %d, %d follows an argument or another result: %s", name, i, j, got)
	}
	return e == api.OK
}

func TestResultsAreNewMemory(t *testing.T) {
	for name := range calls() {
		done := 0
		for i := range roomy() {
			for j := range roomy() {
				if expectNew(t, name, i, j) {
					done++
				}
			}
		}
		if done < 20 {
			t.Errorf("%s fits too few of these arguments: %d", name, done)
		}
	}
}

// One value may be both arguments.
func TestArgumentsThatAreTheSame(t *testing.T) {
	l, fresh := roomy(), roomy()
	for i, v := range l {
		for name, f := range calls() {
			first, e := f(v, v)
			second, _ := f(v, v)
			want := outcome(first, e)
			if sharesWithin(first) {
				t.Errorf("%s of value %d shares memory within a result", name, i)
			}
			spoil(second)
			if got := outcome(first, e); got != want || !same(v, fresh[i]) {
				t.Errorf("%s of value %d twice shares memory: %s", name, i, got)
			}
		}
	}
}

// Results that are used as arguments again stay as they are.
func TestChainsOfCalls(t *testing.T) {
	v, seen, chain := obj([]string{"a", "b"}, arr(num(2), num(1)), arr(str("x"))), []string{}, []api.Value{}
	keep := func(next api.Value, e api.Errno) {
		t.Helper()
		if e != api.OK {
			t.Fatal("error", e)
		}
		v = next
		chain, seen = append(chain, v), append(seen, jsonwrite.Text(v))
	}
	for range 8 {
		keep(ToEntries(v))
		keep(Reverse(v))
		keep(SortBy(v, v))
		keep(GroupBy(v, v))
		keep(Transpose(v))
		keep(Flatten(v, num(1)))
		keep(UniqueBy(v, v))
		keep(FromEntries(v))
		entries := v
		keep(Values(v))
		keep(MaxBy(v, v))
		v = arr(entries, entries)
		keep(MinBy(v, v))
		v = arr(v, entries)
		keep(Add(v))
	}
	for i, link := range chain {
		if got := jsonwrite.Text(link); got != seen[i] {
			t.Errorf("a later call changes the result %d: %s", i, got)
		}
	}
}
