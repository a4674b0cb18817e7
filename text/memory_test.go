package text

import (
	"math"
	"slices"
	"testing"

	"ndjq/api"
	"ndjq/jsonwrite"
)

// spare returns l with spare capacity, which is full of values that are not valid.
func spare(l ...api.Value) []api.Value {
	whole := append(slices.Clone(l), many(api.Value{Kind: 77, Str: "spare"}, 3)...)
	return whole[:len(l)]
}

func spareKeys(keys ...string) []string {
	return append(slices.Clone(keys), "spare", "spare", "spare")[:len(keys)]
}

// room returns v with spare capacity in its slices, also in those that its kind does not use.
func room(v api.Value) api.Value {
	v.Keys, v.Elems = spareKeys(v.Keys...), spare(v.Elems...)
	return v
}

// roomy are values of all kinds with spare capacity. Some name one slice in several places.
func roomy() []api.Value {
	inner := room(obj([]string{"b", "c"}, room(num(1)), room(arr(room(num(2)), room(str("x"))))))
	twice := room(arr(inner, inner, room(arr(num(0), num(1)))))
	return []api.Value{
		room(api.Value{}), room(api.Value{Kind: api.True}), room(num(0)), room(num(math.MinInt64)), room(str("")), room(str("a")), room(str("aéa")), room(str("12")), room(str("[1,[2],{\"a\":[]}]")), room(arr()), room(obj(nil)), room(arr(room(num(97)), room(num(233)), room(num(97)))), room(arr(room(str("a")), room(api.Value{}), room(num(1)), room(str("a")))),
		inner, twice, room(arr(twice, room(num(3)), room(arr()), twice)), room(obj([]string{"a", "c"}, inner, twice)),
	}
}

// spoil overwrites all slices of v with their spare capacity.
func spoil(v api.Value) {
	keys, elems := v.Keys[:cap(v.Keys)], v.Elems[:cap(v.Elems)]
	for i := range elems {
		spoil(elems[i])
		elems[i] = api.Value{Kind: 99, Int: 99}
	}
	for i := range keys {
		keys[i] = "spoiled"
	}
}

// same compares two values with the spare capacity of their slices.
func same(a, b api.Value) bool {
	if a.Kind != b.Kind || a.Int != b.Int || a.Str != b.Str || len(a.Keys) != len(b.Keys) || len(a.Elems) != len(b.Elems) {
		return false
	}
	return slices.Equal(a.Keys[:cap(a.Keys)], b.Keys[:cap(b.Keys)]) && slices.EqualFunc(a.Elems[:cap(a.Elems)], b.Elems[:cap(b.Elems)], same)
}

// places counts how often each element of a slice, also of its spare capacity, occurs in a value.
type places struct {
	keys  map[*string]int
	elems map[*api.Value]int
}

func (p places) count(v api.Value) {
	keys, elems := v.Keys[:cap(v.Keys)], v.Elems[:cap(v.Elems)]
	for i := range keys {
		p.keys[&keys[i]]++
	}
	for i := range elems {
		p.elems[&elems[i]]++
		p.count(elems[i])
	}
}

func sharesWithin(v api.Value) bool {
	p := places{map[*string]int{}, map[*api.Value]int{}}
	p.count(v)
	for _, n := range p.keys {
		if n > 1 {
			return true
		}
	}
	for _, n := range p.elems {
		if n > 1 {
			return true
		}
	}
	return false
}

// calls are the functions of the package as functions of two arguments.
func calls() map[string]binary {
	all := binaries()
	for name, f := range unaries() {
		all[name] = func(v, _ api.Value) (api.Value, api.Errno) { return f(v) }
	}
	return all
}

// expectNew expects that a call changes no argument, and that its results share no memory with an argument, with each other or within themselves.
func expectNew(t *testing.T, name string, i, j int) {
	t.Helper()
	f := calls()[name]
	v, s, freshV, freshS := roomy()[i], roomy()[j], roomy()[i], roomy()[j]
	first, e := f(v, s)
	second, _ := f(v, s)
	if !same(v, freshV) || !same(s, freshS) {
		t.Errorf("%s of %d, %d changes an argument", name, i, j)
	}
	if sharesWithin(first) {
		t.Errorf("%s of %d, %d shares memory within a result", name, i, j)
	}
	want := outcome(second, e)
	spoil(first)
	if !same(v, freshV) || !same(s, freshS) {
		t.Errorf("%s of %d, %d shares memory with an argument", name, i, j)
	}
	spoil(v)
	spoil(s)
	if got := outcome(second, e); got != want {
		t.Errorf("%s of %d, %d follows an argument or another result: %s", name, i, j, got)
	}
}

func TestResultsAreNewMemory(t *testing.T) {
	for name := range calls() {
		for i := range roomy() {
			for j := range roomy() {
				expectNew(t, name, i, j)
			}
		}
	}
}

// One value may be both arguments.
func TestArgumentsThatAreTheSame(t *testing.T) {
	l, fresh := roomy(), roomy()
	for i, v := range l {
		for name, f := range calls() {
			first, e := f(v, v)
			second, _ := f(v, v)
			want := outcome(first, e)
			if sharesWithin(first) {
				t.Errorf("%s of value %d shares memory within a result", name, i)
			}
			spoil(second)
			if got := outcome(first, e); got != want || !same(v, fresh[i]) {
				t.Errorf("%s of value %d twice shares memory: %s", name, i, got)
			}
		}
	}
}

// Results that are used as arguments again stay as they are.
func TestChainsOfCalls(t *testing.T) {
	v, seen, chain := str("a,b,[1]"), []string{}, []api.Value{}
	keep := func(next api.Value, e api.Errno) {
		t.Helper()
		if e != api.OK {
			t.Fatal("error", e)
		}
		v = next
		chain, seen = append(chain, v), append(seen, jsonwrite.Text(v))
	}
	for range 8 {
		keep(Split(v, str(",")))
		keep(CutPrefix(v, str("a")))
		keep(ToJSON(v))
		keep(Explode(v))
		keep(CutSuffix(v, v))
		keep(Implode(v))
		keep(FromJSON(v))
		keep(Join(v, str(",")))
	}
	for i, link := range chain {
		if got := jsonwrite.Text(link); got != seen[i] {
			t.Errorf("a later call changes the result %d: %s", i, got)
		}
	}
}
