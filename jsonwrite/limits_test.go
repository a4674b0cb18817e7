package jsonwrite

import (
	"fmt"
	"math"
	"strconv"
	"strings"
	"testing"

	"ndjq/api"
)

const (
	row       = api.MaxElems
	fullCount = api.MaxBytes / api.MaxString
)

// elements returns n elements with commas between them.
func elements(s string, n int) string {
	return strings.TrimSuffix(strings.Repeat(s+",", n), ",")
}

// numbered returns n keys in ascending order, each of size bytes, which end with c.
func numbered(n, size int, c string) []string {
	keys := make([]string, n)
	for i := range keys {
		keys[i] = strconv.Itoa(10000+i) + strings.Repeat(c, size-5)
	}
	return keys
}

// nested encloses v in n arrays and objects; the kinds alternate.
func nested(v api.Value, n int) api.Value {
	for i := range n {
		if i%2 == 0 {
			v = arr(v)
		} else {
			v = obj([]string{"k"}, v)
		}
	}
	return v
}

type named struct {
	name string
	v    api.Value
	s    string
}

// largest are valid values that reach a limit, with their texts.
func largest() []named {
	long, controls, quotes := strings.Repeat("x", api.MaxString), strings.Repeat("\x01", api.MaxString), strings.Repeat(`"`, api.MaxString)
	code := `"` + strings.Repeat(`\u0001`, api.MaxString) + `"`
	mark := `"` + strings.Repeat(`\"`, api.MaxString) + `"`
	full := arr(repeat(null, row-1)...)
	nulls := "[" + elements("null", row-1) + "]"
	var members, codes []string
	for _, key := range numbered(row, 5, "") {
		members = append(members, fmt.Sprintf(`"%s":-7`, key))
	}
	for _, key := range numbered(fullCount, api.MaxString, "\x1f") {
		codes = append(codes, `"`+key[:5]+strings.Repeat(`\u001f`, api.MaxString-5)+`":[]`)
	}
	return []named{
		{"the longest string", str(long), `"` + long + `"`}, {"the longest string of control characters", str(controls), code}, {"the longest string of quotes", str(quotes), mark},
		{"the longest string of two bytes", str(strings.Repeat("é", api.MaxString/2)), `"` + strings.Repeat("é", api.MaxString/2) + `"`},
		{"the longest key", obj([]string{controls}, num(1)), "{" + code + ":1}"},
		{"the longest array", arr(repeat(num(math.MinInt64), row)...), "[" + elements("-9223372036854775808", row) + "]"},
		{"the largest object", obj(numbered(row, 5, ""), repeat(num(-7), row)...), "{" + strings.Join(members, ",") + "}"},
		{"most nodes", arr(full, full, full, arr(repeat(null, row-2)...)), "[" + nulls + "," + nulls + "," + nulls + ",[" + elements("null", row-2) + "]]"},
		{"most bytes in strings", arr(repeat(str(controls), fullCount)...), "[" + elements(code, fullCount) + "]"},
		{"most bytes in keys", obj(numbered(fullCount, api.MaxString, "\x1f"), repeat(empty, fullCount)...), "{" + strings.Join(codes, ",") + "}"},
		{"deepest array", nested(num(1), api.MaxDepth), strings.Repeat(`{"k":[`, api.MaxDepth/2) + "1" + strings.Repeat("]}", api.MaxDepth/2)},
		{"deepest with an empty object", nested(bare, api.MaxDepth-1), "[" + strings.Repeat(`{"k":[`, api.MaxDepth/2-1) + "{}" + strings.Repeat("]}", api.MaxDepth/2-1) + "]"},
		{"deepest elements", arr(nested(num(1), api.MaxDepth-2), num(2)), "[" + strings.Repeat(`{"k":[`, api.MaxDepth/2-1) + "1" + strings.Repeat("]}", api.MaxDepth/2-1) + ",2]"},
	}
}

func TestP5_1Largest(t *testing.T) {
	for _, x := range largest() {
		expectText(t, x.name, x.v, x.s)
	}
}

// notValid are values that are not valid; s is not used.
func notValid() []named {
	var bad []named
	add := func(name string, v api.Value) {
		bad = append(bad, named{name: name, v: v})
	}
	for _, kind := range []int{-1, api.Object + 1, 100, math.MinInt, math.MaxInt} {
		add("kind "+strconv.Itoa(kind), api.Value{Kind: kind})
	}
	for kind := api.Null; kind <= api.Object; kind++ {
		for _, x := range []api.Value{{Kind: api.Number, Int: 1}, {Kind: api.String, Str: "a"}, {Kind: api.Object, Keys: []string{"a"}}, {Kind: api.Array, Elems: []api.Value{{}}}} {
			if x.Kind != kind || kind == api.Object {
				x.Kind = kind
				add("kind "+strconv.Itoa(kind)+" with a field that it does not use", x)
			}
		}
	}
	two := []api.Value{null, null}
	add("a key too much", obj([]string{"a", "b"}, null))
	add("an element too much", obj([]string{"a"}, two...))
	add("equal keys", obj([]string{"a", "a"}, two...))
	add("descending keys", obj([]string{"b", "a"}, two...))
	for _, s := range []string{"\xff", "a\xe9", "\xed\xa0\x80", "\xc0\x80", "\xf4\x90\x80\x80", "\n\x80"} {
		add("a string that is not UTF-8", str(s))
		add("a key that is not UTF-8", obj([]string{s}, null))
	}
	return bad
}

func beyondLimits() []named {
	long := strings.Repeat("x", api.MaxString)
	full := arr(repeat(null, row-1)...)
	cycle := arr(null, null)
	cycle.Elems[0] = cycle
	knot := obj([]string{"a", "b"}, null, null)
	knot.Elems[0], knot.Elems[1] = knot, knot
	wide := null
	for range 60 {
		wide = arr(repeat(wide, row)...)
	}
	return []named{
		{name: "a long string", v: str(long + "x")}, {name: "a long key", v: obj([]string{long + "x"}, null)},
		{name: "a long array", v: arr(repeat(null, row+1)...)}, {name: "a large object", v: obj(numbered(row+1, 5, ""), repeat(null, row+1)...)},
		{name: "a deep value", v: nested(num(1), api.MaxDepth+1)}, {name: "a deep empty array", v: nested(empty, api.MaxDepth)}, {name: "a very deep value", v: nested(null, 1<<16)},
		{name: "many nodes", v: arr(full, full, full, full)}, {name: "many bytes", v: arr(append(repeat(str(long), fullCount), str("x"))...)},
		{name: "many bytes in keys", v: obj(append(numbered(fullCount, api.MaxString, "x"), "x"), repeat(null, fullCount+1)...)},
		{name: "a cycle of arrays", v: cycle}, {name: "a cycle of objects", v: knot}, {name: "more nodes than can be counted", v: wide},
	}
}

func TestP5_1NotValid(t *testing.T) {
	for _, x := range append(notValid(), beyondLimits()...) {
		expectText(t, x.name, x.v, "")
	}
	for _, x := range notValid() {
		expectText(t, x.name+" in an array", arr(num(1), x.v, num(2)), "")
		expectText(t, x.name+" at the end", arr(empty, arr(bare, x.v)), "")
		expectText(t, x.name+" in an object", obj([]string{"a", "b"}, null, x.v), "")
		expectText(t, x.name+" deep", nested(x.v, api.MaxDepth-2), "")
	}
}
