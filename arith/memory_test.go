package arith

import (
	"math"
	"slices"
	"testing"

	"ndjq/api"
	"ndjq/jsonwrite"
)

// spare returns l with spare capacity, which is full of values that are not valid.
func spare(l ...api.Value) []api.Value {
	whole := append(slices.Clone(l), many(api.Value{Kind: 77, Str: "spare"}, 3)...)
	return whole[:len(l)]
}

func spareKeys(keys ...string) []string {
	return append(slices.Clone(keys), "spare", "spare", "spare")[:len(keys)]
}

// roomy are values of all kinds with spare capacity, also of the empty slices that their kind does not use.
func roomy() []api.Value {
	room := func(v api.Value) api.Value {
		v.Keys, v.Elems = spareKeys(v.Keys...), spare(v.Elems...)
		return v
	}
	inner := room(obj([]string{"b", "c"}, num(1), room(arr(num(2), str("x")))))
	twice := room(arr(inner, inner))
	return []api.Value{
		room(api.Value{}), room(api.Value{Kind: api.False}), room(api.Value{Kind: api.True}), room(num(0)), room(num(3)), room(num(math.MinInt64)), room(str("")), room(str("a,b")), room(str(",")),
		room(arr()), room(obj(nil)), inner, twice, room(arr(twice, num(3), twice, room(arr()))), room(obj([]string{"a", "c"}, inner, inner)), room(obj([]string{"a", "b"}, room(obj([]string{"b", "d"}, num(4), room(arr()))), twice)),
	}
}

// spoil overwrites all slices of v with their spare capacity.
func spoil(v api.Value) {
	keys, elems := v.Keys[:cap(v.Keys)], v.Elems[:cap(v.Elems)]
	for i := range elems {
		spoil(elems[i])
		elems[i] = api.Value{Kind: 99, Int: 99}
	}
	for i := range keys {
		keys[i] = "spoiled"
	}
}

// same compares two values with the spare capacity of their slices.
func same(a, b api.Value) bool {
	if a.Kind != b.Kind || a.Int != b.Int || a.Str != b.Str || len(a.Keys) != len(b.Keys) || len(a.Elems) != len(b.Elems) {
		return false
	}
	return slices.Equal(a.Keys[:cap(a.Keys)], b.Keys[:cap(b.Keys)]) && slices.EqualFunc(a.Elems[:cap(a.Elems)], b.Elems[:cap(b.Elems)], same)
}

// places counts how often each element of a slice, also of its spare capacity, occurs in a value.
type places struct {
	keys  map[*string]int
	elems map[*api.Value]int
}

func (p places) count(v api.Value) {
	keys, elems := v.Keys[:cap(v.Keys)], v.Elems[:cap(v.Elems)]
	for i := range keys {
		p.keys[&keys[i]]++
	}
	for i := range elems {
		p.elems[&elems[i]]++
		p.count(elems[i])
	}
}

func sharesWithin(v api.Value) bool {
	p := places{map[*string]int{}, map[*api.Value]int{}}
	p.count(v)
	for _, n := range p.keys {
		if n > 1 {
			return true
		}
	}
	for _, n := range p.elems {
		if n > 1 {
			return true
		}
	}
	return false
}

// expectNew expects that call changes no argument, and that its results share no memory with an argument, with each other or within themselves.
func expectNew(t *testing.T, name string, i, j int, call func(a, b api.Value) (api.Value, api.Errno)) {
	t.Helper()
	args, fresh := roomy(), roomy()
	first, e := call(args[i], args[j])
	second, _ := call(args[i], args[j])
	for k := range args {
		if !same(args[k], fresh[k]) {
			t.Errorf("%s of %d and %d changes an argument", name, i, j)
		}
	}
	want := outcome(second, e)
	if sharesWithin(first) {
		t.Errorf("%s of %d and %d shares memory within a result", name, i, j)
	}
	spoil(first)
	for k := range args {
		if !same(args[k], fresh[k]) {
			t.Errorf("%s of %d and %d shares memory with an argument", name, i, j)
		}
	}
	spoil(args[i])
	spoil(args[j])
	if got := outcome(second, e); got != want {
		t.Errorf("%s of %d and %d follows an argument or another result: %s", name, i, j, got)
	}
}

func TestResultsAreNewMemory(t *testing.T) {
	for i := range roomy() {
		for j := range roomy() {
			for _, op := range append(operators(), "no operator") {
				expectNew(t, op, i, j, func(a, b api.Value) (api.Value, api.Errno) { return Binary(op, a, b) })
			}
			expectNew(t, "Merge", i, j, Merge)
			expectNew(t, "Neg", i, j, func(a, _ api.Value) (api.Value, api.Errno) { return Neg(a) })
		}
	}
}

func TestSplitReturnsNewMemory(t *testing.T) {
	for _, x := range [][2]string{{"a,b", ","}, {"abc", ""}, {"abc", ","}, {",", ","}, {"", ","}} {
		first, _ := Split(x[0], x[1])
		second, _ := Split(x[0], x[1])
		want := slices.Clone(second)
		first = first[:cap(first)]
		for i := range first {
			first[i] = "spoiled"
		}
		if !slices.Equal(second, want) {
			t.Errorf("two results of Split of %q share memory", x)
		}
	}
}

// Results that are used as arguments again stay as they are.
func TestChainsOfCalls(t *testing.T) {
	v, texts, chain := arr(num(0)), []string{}, []api.Value{}
	for i := range int64(9) {
		next, e := Binary("+", v, arr(num(i), v))
		if e != api.OK {
			t.Fatal("error", e)
		}
		v = next
		chain, texts = append(chain, v), append(texts, jsonwrite.Text(v))
	}
	for i, link := range chain {
		if got := jsonwrite.Text(link); got != texts[i] {
			t.Errorf("a later call changes the result %d: %s", i, got)
		}
	}
}
