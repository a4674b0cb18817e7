package path

import (
	"math"
	"slices"
	"testing"

	"ndjq/api"
	"ndjq/jsonwrite"
)

// spare returns l with spare capacity, which is full of values that are not valid.
func spare(l ...api.Value) []api.Value {
	whole := append(slices.Clone(l), many(api.Value{Kind: 77, Str: "spare"}, 3)...)
	return whole[:len(l)]
}

func spareKeys(keys ...string) []string {
	return append(slices.Clone(keys), "spare", "spare", "spare")[:len(keys)]
}

// room returns v with spare capacity in its slices, also in those that its kind does not use.
func room(v api.Value) api.Value {
	v.Keys, v.Elems = spareKeys(v.Keys...), spare(v.Elems...)
	return v
}

// roomy are values of all kinds with spare capacity. Some name one slice in several places.
func roomy() []api.Value {
	inner := room(obj([]string{"b", "c"}, room(num(1)), room(arr(room(num(2)), str("x")))))
	twice := room(arr(inner, inner, room(arr(num(0), num(1)))))
	return []api.Value{
		room(api.Value{}), room(api.Value{Kind: api.True}), room(num(0)), room(num(math.MinInt64)), room(str("")), room(str("aéb")), room(arr()), room(obj(nil)),
		inner, twice, room(arr(twice, room(num(3)), room(arr()))), room(obj([]string{"a", "c"}, inner, twice)), room(between(room(num(0)), room(api.Value{}))),
	}
}

// roomyPaths are steps, paths and arrays of paths with spare capacity.
func roomyPaths() []api.Value {
	slice := room(between(room(num(1)), room(api.Value{})))
	first, name := room(num(0)), room(str("b"))
	paths := []api.Value{room(arr()), room(arr(first)), room(arr(name)), room(arr(slice)), room(arr(first, name)), room(arr(first, first)), room(arr(slice, first)), room(arr(slice, slice)), room(arr(str("c"), num(-1))), room(arr(str("a"), name)), room(arr(num(5))), room(arr(str("d"), num(2), slice))}
	return append(paths, slice, first, name, room(arr(paths[:2]...)), room(arr(paths[1], paths[3], paths[1])), room(arr(paths[2], paths[8], paths[2])), room(arr(paths[6], paths[7])), room(arr(paths[4], paths[5])))
}

// spoil overwrites all slices of v with their spare capacity.
func spoil(v api.Value) {
	keys, elems := v.Keys[:cap(v.Keys)], v.Elems[:cap(v.Elems)]
	for i := range elems {
		spoil(elems[i])
		elems[i] = api.Value{Kind: 99, Int: 99}
	}
	for i := range keys {
		keys[i] = "spoiled"
	}
}

// same compares two values with the spare capacity of their slices.
func same(a, b api.Value) bool {
	if a.Kind != b.Kind || a.Int != b.Int || a.Str != b.Str || len(a.Keys) != len(b.Keys) || len(a.Elems) != len(b.Elems) {
		return false
	}
	return slices.Equal(a.Keys[:cap(a.Keys)], b.Keys[:cap(b.Keys)]) && slices.EqualFunc(a.Elems[:cap(a.Elems)], b.Elems[:cap(b.Elems)], same)
}

// places counts how often each element of a slice, also of its spare capacity, occurs in a value.
type places struct {
	keys  map[*string]int
	elems map[*api.Value]int
}

func (p places) count(v api.Value) {
	keys, elems := v.Keys[:cap(v.Keys)], v.Elems[:cap(v.Elems)]
	for i := range keys {
		p.keys[&keys[i]]++
	}
	for i := range elems {
		p.elems[&elems[i]]++
		p.count(elems[i])
	}
}

func sharesWithin(v api.Value) bool {
	p := places{map[*string]int{}, map[*api.Value]int{}}
	p.count(v)
	for _, n := range p.keys {
		if n > 1 {
			return true
		}
	}
	for _, n := range p.elems {
		if n > 1 {
			return true
		}
	}
	return false
}

type call func(v, p, x api.Value) (api.Value, api.Errno)

// calls are the functions of the package as functions of a value, a path and another value.
func calls() map[string]call {
	return map[string]call{
		"Set":       Set,
		"Step":      func(v, p, _ api.Value) (api.Value, api.Errno) { return Step(v, p) },
		"Get":       func(v, p, _ api.Value) (api.Value, api.Errno) { return Get(v, p) },
		"Delete":    func(v, p, _ api.Value) (api.Value, api.Errno) { return Delete(v, p) },
		"SliceStep": func(v, _, x api.Value) (api.Value, api.Errno) { return SliceStep(v, x) },
		"Paths":     func(v, _, _ api.Value) (api.Value, api.Errno) { return arr(Paths(v)...), api.OK },
	}
}

// trio returns the arguments of a call, which share no memory.
func trio(i, j, k int) [3]api.Value {
	return [3]api.Value{roomy()[i], roomyPaths()[j], roomy()[k]}
}

func sameTrio(a, b [3]api.Value) bool {
	return same(a[0], b[0]) && same(a[1], b[1]) && same(a[2], b[2])
}

// expectNew expects that a call changes no argument, and that its results share no memory with an argument, with each other or within themselves.
func expectNew(t *testing.T, name string, f call, i, j, k int) {
	t.Helper()
	args, fresh := trio(i, j, k), trio(i, j, k)
	first, e := f(args[0], args[1], args[2])
	second, _ := f(args[0], args[1], args[2])
	if !sameTrio(args, fresh) {
		t.Errorf("%s of %d, %d, %d changes an argument", name, i, j, k)
	}
	if sharesWithin(first) {
		t.Errorf("%s of %d, %d, %d shares memory within a result", name, i, j, k)
	}
	want := outcome(second, e)
	spoil(first)
	if !sameTrio(args, fresh) {
		t.Errorf("%s of %d, %d, %d shares memory with an argument", name, i, j, k)
	}
	spoil(args[0])
	spoil(args[1])
	spoil(args[2])
	if got := outcome(second, e); got != want {
		t.Errorf("%s of %d, %d, %d follows an argument or another result: %s", name, i, j, k, got)
	}
}

func TestResultsAreNewMemory(t *testing.T) {
	for name, f := range calls() {
		for i := range roomy() {
			for j := range roomyPaths() {
				for k := range roomy() {
					if name == "Set" || name == "SliceStep" || k == 0 {
						expectNew(t, name, f, i, j, k)
					}
				}
			}
		}
	}
}

// One value may be several arguments.
func TestArgumentsThatAreTheSame(t *testing.T) {
	l, fresh := slices.Concat(roomy(), roomyPaths()), slices.Concat(roomy(), roomyPaths())
	for i, v := range l {
		for name, f := range calls() {
			first, e := f(v, v, v)
			second, _ := f(v, v, v)
			want := outcome(first, e)
			if sharesWithin(first) {
				t.Errorf("%s of value %d shares memory within a result", name, i)
			}
			spoil(second)
			if got := outcome(first, e); got != want || !same(v, fresh[i]) {
				t.Errorf("%s of value %d three times shares memory: %s", name, i, got)
			}
		}
	}
}

// Results that are used as arguments again stay as they are.
func TestChainsOfCalls(t *testing.T) {
	v, seen, chain := arr(num(0)), []string{}, []api.Value{}
	keep := func(next api.Value, e api.Errno) {
		t.Helper()
		if e != api.OK {
			t.Fatal("error", e)
		}
		v = next
		chain, seen = append(chain, v), append(seen, jsonwrite.Text(v))
	}
	for i := range int64(8) {
		keep(Set(v, arr(num(i+1)), v))
		keep(Set(v, arr(between(num(1), num(1))), arr(num(i))))
		keep(Set(v, arr(num(i+3), str("a")), num(i)))
		keep(Delete(v, arr(arr(num(1)), arr(num(-1), str("a")))))
	}
	for i, link := range chain {
		if got := jsonwrite.Text(link); got != seen[i] {
			t.Errorf("a later call changes the result %d: %s", i, got)
		}
	}
}
