package value

import (
	"math"
	"slices"
	"strconv"
	"strings"
	"testing"

	"ndjq/api"
)

// The values of the tests are literals, so that a test of one function does not lean on another.
var (
	null  = api.Value{}
	no    = api.Value{Kind: api.False}
	yes   = api.Value{Kind: api.True}
	empty = api.Value{Kind: api.Array}
	bare  = api.Value{Kind: api.Object}
)

func num(n int64) api.Value {
	return api.Value{Kind: api.Number, Int: n}
}

func str(s string) api.Value {
	return api.Value{Kind: api.String, Str: s}
}

func arr(l ...api.Value) api.Value {
	return api.Value{Kind: api.Array, Elems: l}
}

func obj(keys []string, l ...api.Value) api.Value {
	return api.Value{Kind: api.Object, Keys: keys, Elems: l}
}

func repeat(v api.Value, n int) []api.Value {
	return slices.Repeat([]api.Value{v}, n)
}

// numbered returns n keys in ascending order, each of size bytes.
func numbered(n, size int) []string {
	keys := make([]string, n)
	for i := range keys {
		digits := strconv.Itoa(10000 + i)
		keys[i] = digits + strings.Repeat("x", size-len(digits))
	}
	return keys
}

// nested encloses v in n arrays and objects; the kinds alternate.
func nested(v api.Value, n int) api.Value {
	for i := range n {
		if i%2 == 0 {
			v = arr(v)
		} else {
			v = obj([]string{"k"}, v)
		}
	}
	return v
}

// identical compares all fields. A nil slice and an empty one are equivalent.
func identical(a, b api.Value) bool {
	if a.Kind != b.Kind || a.Int != b.Int || a.Str != b.Str {
		return false
	}
	return slices.Equal(a.Keys, b.Keys) && slices.EqualFunc(a.Elems, b.Elems, identical)
}

// show writes a value briefly, also one that is not valid.
func show(v api.Value) string {
	s := "{" + strconv.Itoa(v.Kind) + " " + strconv.FormatInt(v.Int, 10) + " " + strconv.Quote(v.Str[:min(len(v.Str), 20)])
	for _, key := range v.Keys[:min(len(v.Keys), 3)] {
		s += " " + key[:min(len(key), 20)]
	}
	return s + " " + strconv.Itoa(len(v.Elems)) + " elements}"
}

const (
	fullString = api.MaxString
	fullCount  = api.MaxBytes / api.MaxString
	row        = api.MaxElems
)

type measured struct {
	name         string
	v            api.Value
	depth, nodes int
}

func goodValues() []measured {
	long := strings.Repeat("x", fullString)
	return []measured{
		{"null", null, 0, 1}, {"false", no, 0, 1}, {"true", yes, 0, 1},
		{"0", num(0), 0, 1}, {"the least number", num(math.MinInt64), 0, 1}, {"the greatest number", num(math.MaxInt64), 0, 1},
		{"empty string", str(""), 0, 1}, {"string", str("aéb\x00\U0010FFFF"), 0, 1}, {"longest string", str(long), 0, 1},
		{"longest string of two bytes", str(strings.Repeat("é", fullString/2)), 0, 1},
		{"empty array", empty, 1, 1}, {"empty object", bare, 1, 1}, {"array", arr(null, no, num(3)), 1, 4},
		{"example", arr(empty, num(1)), 2, 3}, {"deep behind shallow", arr(num(1), arr(bare), num(2)), 3, 5},
		{"shallow behind deep", arr(arr(empty), empty), 3, 4},
		{"object", obj([]string{"", "B", "a", "aa", "é", "\uFFFF", "\U00010000"}, null, yes, empty, bare, num(1), str("x"), no), 2, 8},
		{"object in object", obj([]string{"a"}, obj([]string{"a"}, obj([]string{"a"}, null))), 3, 4},
		{"empty slices of a null", api.Value{Keys: []string{}, Elems: []api.Value{}}, 0, 1},
		{"empty slices of a string", api.Value{Kind: api.String, Str: "a", Keys: []string{}, Elems: []api.Value{}}, 0, 1},
		{"empty slices of an object", api.Value{Kind: api.Object, Keys: []string{}, Elems: []api.Value{}}, 1, 1},
		{"spare capacity", api.Value{Kind: api.Number, Int: 1, Keys: make([]string, 0, 4), Elems: make([]api.Value, 0, 4)}, 0, 1},
		{"longest array", arr(repeat(num(7), row)...), 1, row + 1}, {"largest object", obj(numbered(row, 5), repeat(null, row)...), 1, row + 1},
		{"deepest", nested(num(1), api.MaxDepth), api.MaxDepth, api.MaxDepth + 1},
		{"deepest with an empty array", nested(empty, api.MaxDepth-1), api.MaxDepth, api.MaxDepth},
		{"deepest with an empty object", nested(bare, api.MaxDepth-1), api.MaxDepth, api.MaxDepth},
		{"most nodes", mostNodes(), 2, api.MaxNodes},
		{"most bytes in strings", arr(repeat(str(long), fullCount)...), 1, fullCount + 1},
		{"most bytes in keys", obj(numbered(fullCount, fullString), repeat(null, fullCount)...), 1, fullCount + 1},
		{"most bytes in both", arr(mostBytesInBoth()...), 2, fullCount + 2},
	}
}

// mostNodes is an array of arrays; its nodes are itself, and 4 times an array and its elements, but for one element.
func mostNodes() api.Value {
	full := arr(repeat(null, row-1)...)
	return arr(full, full, full, arr(repeat(null, row-2)...))
}

func mostBytesInBoth() []api.Value {
	half := fullCount / 2
	inner := obj(numbered(half, fullString), repeat(str(strings.Repeat("é", fullString/2)), half)...)
	return append([]api.Value{inner}, repeat(str(""), half)...)
}

type named struct {
	name string
	v    api.Value
}

func badValues() []named {
	bad := badFields()
	bad = append(bad, badKeys()...)
	bad = append(bad, beyondLimits()...)
	for _, x := range append(badFields(), badKeys()...) {
		bad = append(bad,
			named{x.name + " in an array", arr(num(1), x.v, num(2))}, named{x.name + " at the end", arr(empty, arr(bare, x.v))},
			named{x.name + " in an object", obj([]string{"a", "b"}, null, x.v)}, named{x.name + " deep", nested(x.v, 30)})
	}
	return bad
}

// badFields have a kind that does not exist, or a field that their kind does not use.
func badFields() []named {
	var bad []named
	for _, kind := range []int{-1, api.Object + 1, 100, math.MinInt, math.MaxInt} {
		bad = append(bad, named{"kind " + strconv.Itoa(kind), api.Value{Kind: kind}})
	}
	for kind := api.Null; kind <= api.Object; kind++ {
		name := "kind " + strconv.Itoa(kind)
		if kind != api.Number {
			bad = append(bad, named{name + " with Int", api.Value{Kind: kind, Int: 1}}, named{name + " with less Int", api.Value{Kind: kind, Int: -1}})
		}
		if kind != api.String {
			bad = append(bad, named{name + " with Str", api.Value{Kind: kind, Str: "a"}})
		}
		if kind != api.Object {
			bad = append(bad, named{name + " with Keys", api.Value{Kind: kind, Keys: []string{"a"}}},
				named{name + " with both", api.Value{Kind: kind, Keys: []string{"a"}, Elems: []api.Value{{}}}})
		}
		if kind != api.Array {
			bad = append(bad, named{name + " with Elems", api.Value{Kind: kind, Elems: []api.Value{{}}}})
		}
	}
	return bad
}

func badKeys() []named {
	two := []api.Value{null, null}
	return []named{
		{"a key too much", obj([]string{"a", "b"}, null)}, {"an element too much", obj([]string{"a"}, null, null)},
		{"key without element", obj([]string{"a"})}, {"elements without keys", obj(nil, two...)},
		{"equal keys", obj([]string{"a", "a"}, two...)}, {"equal empty keys", obj([]string{"", ""}, two...)},
		{"descending keys", obj([]string{"b", "a"}, two...)}, {"descending letters", obj([]string{"a", "B"}, two...)},
		{"longer key first", obj([]string{"aa", "a"}, two...)}, {"last key too small", obj([]string{"a", "c", "b"}, null, null, null)},
		{"key that is not UTF-8", obj([]string{"\xff"}, null)}, {"last key that is not UTF-8", obj([]string{"a", "b\xc3"}, two...)},
		{"string that is not UTF-8", str("a\xe9")}, {"surrogate", str("\xed\xa0\x80")}, {"overlong", str("\xc0\x80")},
	}
}

func beyondLimits() []named {
	long := strings.Repeat("x", fullString)
	return []named{
		{"long string", str(long + "x")}, {"long string of two bytes", str(strings.Repeat("é", fullString/2) + "x")},
		{"long key", obj(numbered(1, fullString+1), null)}, {"long string in an array", arr(null, str(long+"x"))},
		{"long array", arr(repeat(null, row+1)...)}, {"large object", obj(numbered(row+1, 5), repeat(null, row+1)...)},
		{"long array in an array", arr(arr(repeat(null, row+1)...))},
		{"too deep", nested(num(1), api.MaxDepth+1)}, {"too deep with an empty array", nested(empty, api.MaxDepth)},
		{"too deep with an empty object", nested(bare, api.MaxDepth)}, {"far too deep", nested(null, 1<<16)},
		{"too deep at the end", arr(num(1), nested(num(1), api.MaxDepth))},
		{"too many nodes", arr(repeat(arr(repeat(null, row-1)...), 4)...)},
		{"too many nodes in objects", obj(numbered(4, 5), repeat(arr(repeat(null, row-1)...), 4)...)},
		{"too many bytes in strings", arr(append(repeat(str(long), fullCount), str("x"))...)},
		{"too many bytes in keys", obj(append(numbered(fullCount, fullString), "x"), repeat(null, fullCount+1)...)},
		{"too many bytes in both", arr(append(mostBytesInBoth(), str("x"))...)},
		{"a key too many bytes", arr(append(mostBytesInBoth(), obj([]string{"x"}, null))...)},
		{"shared slices", shared()}, {"an array that contains itself", itself(api.Array)}, {"an object that contains itself", itself(api.Object)},
	}
}

// shared has 1024 to the power of 60 nodes in 60 slices.
func shared() api.Value {
	v := null
	for range 60 {
		v = arr(repeat(v, row)...)
	}
	return v
}

func itself(kind int) api.Value {
	l := make([]api.Value, 2)
	v := api.Value{Kind: kind, Elems: l}
	if kind == api.Object {
		v.Keys = []string{"a", "b"}
	}
	l[0], l[1] = v, v
	return v
}

func TestP2_1GoodValues(t *testing.T) {
	for _, x := range goodValues() {
		if !Valid(x.v) {
			t.Error(x.name, "is not valid")
		}
		if depth := Depth(x.v); depth != x.depth {
			t.Error(x.name, "has depth", depth)
		}
		if nodes := Nodes(x.v); nodes != x.nodes {
			t.Error(x.name, "has nodes", nodes)
		}
		if Compare(x.v, x.v) != 0 || !Equal(x.v, x.v) {
			t.Error(x.name, "is not equal to itself")
		}
	}
}

func TestP2_1BadValues(t *testing.T) {
	for _, x := range badValues() {
		if Valid(x.v) {
			t.Error(x.name, "is valid")
		}
		if depth, nodes := Depth(x.v), Nodes(x.v); depth != 0 || nodes != 0 {
			t.Error(x.name, "has depth and nodes", depth, nodes)
		}
		if Compare(x.v, x.v) != 0 || Equal(x.v, x.v) {
			t.Error(x.name, "is compared with itself", Compare(x.v, x.v), Equal(x.v, x.v))
		}
		for _, good := range []api.Value{null, num(1), arr(null), obj([]string{"z"}, null)} {
			if Compare(x.v, good) != 0 || Compare(good, x.v) != 0 {
				t.Error(x.name, "is compared with", show(good))
			}
			if Equal(x.v, good) || Equal(good, x.v) {
				t.Error(x.name, "is equal to", show(good))
			}
		}
	}
}

// ascending are values in strictly ascending order.
func ascending() []api.Value {
	return []api.Value{
		null, no, yes,
		num(math.MinInt64), num(-1 << 32), num(-2), num(-1), num(0), num(1), num(2), num(10), num(1 << 32), num(math.MaxInt64),
		str(""), str("\x00"), str("10"), str("9"), str("B"), str("a"), str("a\x00"), str("aa"), str("b"), str("é"), str("\uFFFF"), str("\U00010000"),
		empty, arr(null), arr(null, null), arr(null, num(1)), arr(no), arr(num(-1), num(9)), arr(num(1)), arr(num(1), num(0)),
		arr(num(2)), arr(num(2), null), arr(str("")), arr(str("b")), arr(empty), arr(empty, num(5)), arr(arr(null)), arr(arr(null), no), arr(bare),
		bare, obj([]string{""}, num(9)), obj([]string{"a"}, null), obj([]string{"a"}, num(5)), obj([]string{"a"}, num(6)), obj([]string{"a"}, bare),
		obj([]string{"a", "b"}, null, null), obj([]string{"a", "b"}, num(1), num(2)), obj([]string{"a", "b"}, num(1), num(3)),
		obj([]string{"a", "b"}, num(2), num(1)), obj([]string{"a", "b", "c"}, null, null, null), obj([]string{"a", "c"}, null, null),
		obj([]string{"aa"}, null), obj([]string{"b"}, num(1)), obj([]string{"b", "c"}, null, null),
	}
}

func TestP2_1Order(t *testing.T) {
	l, others := ascending(), ascending()
	for i, a := range l {
		for j, b := range others {
			want := 0
			switch {
			case i < j:
				want = -1
			case i > j:
				want = 1
			}
			if got := Compare(a, b); got != want {
				t.Error("Compare", show(a), show(b), got)
			}
			if got := Equal(a, b); got != (i == j) {
				t.Error("Equal", show(a), show(b), got)
			}
		}
	}
}

func TestP2_1OrderOfLargeValues(t *testing.T) {
	a := append(repeat(num(7), row-1), num(8))
	if c := Compare(arr(a...), arr(repeat(num(7), row)...)); c != 1 {
		t.Error("arrays that differ at the end", c)
	}
	if c := Compare(nested(num(1), api.MaxDepth), nested(num(2), api.MaxDepth)); c != -1 {
		t.Error("values that differ at the bottom", c)
	}
	if c := Compare(api.Value{Kind: api.Array, Elems: []api.Value{}}, empty); c != 0 {
		t.Error("an empty slice and a nil slice", c)
	}
}

func TestP2_2Truthy(t *testing.T) {
	for _, x := range goodValues() {
		if want := x.v.Kind != api.Null && x.v.Kind != api.False; Truthy(x.v) != want {
			t.Error(x.name, "is", Truthy(x.v))
		}
	}
	for _, x := range badValues() {
		if Truthy(x.v) {
			t.Error(x.name, "is truthy")
		}
	}
}

func TestP2_2TypeName(t *testing.T) {
	names := [...]string{"null", "boolean", "boolean", "number", "string", "array", "object"}
	for _, x := range goodValues() {
		if name := TypeName(x.v); name != names[x.v.Kind] {
			t.Error(x.name, "has type", name)
		}
	}
	for _, x := range badValues() {
		if name := TypeName(x.v); name != "" {
			t.Error(x.name, "has type", name)
		}
	}
}

func expect(t *testing.T, name string, v api.Value, e api.Errno, want api.Value, wantErr api.Errno) {
	t.Helper()
	if e != wantErr || !identical(v, want) {
		t.Error(name, show(v), "error", e, "expected", show(want), "error", wantErr)
	}
}

func TestP2_3Scalars(t *testing.T) {
	expect(t, "Bool(true)", Bool(true), 0, yes, 0)
	expect(t, "Bool(false)", Bool(false), 0, no, 0)
	for _, n := range []int64{0, 1, -1, 1 << 40, math.MinInt64, math.MaxInt64} {
		expect(t, "Num", Num(n), 0, num(n), 0)
	}
}

func TestP2_3Str(t *testing.T) {
	long := strings.Repeat("x", fullString)
	for _, s := range []string{"", "a", "aéb", "\x00", "\n\"\\", "\U0010FFFF", long, strings.Repeat("é", fullString/2)} {
		v, e := Str(s)
		expect(t, "Str", v, e, str(s), 0)
	}
	for _, s := range []string{"\xff", "a\xe9", "\xed\xa0\x80", "\xc0\x80", long + "\xff", strings.Repeat("\x80", 2*fullString)} {
		v, e := Str(s)
		expect(t, "Str of bytes", v, e, null, api.ErrUTF8)
	}
	for _, s := range []string{long + "x", strings.Repeat("é", fullString/2) + "x", strings.Repeat("x", 1<<20)} {
		v, e := Str(s)
		expect(t, "Str of a long string", v, e, null, api.ErrLimit)
	}
}

func TestP2_3Arr(t *testing.T) {
	for _, l := range [][]api.Value{nil, {}, {null}, {num(1), str("a"), empty, bare}, repeat(num(1), row), repeat(str(strings.Repeat("x", fullString)), fullCount), mostNodes().Elems, {nested(null, api.MaxDepth-1)}} {
		v, e := Arr(l)
		expect(t, "Arr", v, e, arr(l...), 0)
		if !Valid(v) {
			t.Error("Arr returns a value that is not valid", show(v))
		}
	}
}

func TestP2_3ArrErrors(t *testing.T) {
	for _, x := range badValues() {
		for _, l := range [][]api.Value{{x.v}, {num(1), x.v}, {x.v, num(1)}, append(repeat(null, row), x.v)} {
			v, e := Arr(l)
			expect(t, "Arr with "+x.name, v, e, null, api.ErrInvalid)
		}
	}
	for _, l := range [][]api.Value{
		repeat(null, row+1), repeat(empty, 1<<20), {nested(null, api.MaxDepth)}, {num(1), nested(empty, api.MaxDepth-1)},
		repeat(arr(repeat(null, row-1)...), 4), append(repeat(str(strings.Repeat("x", fullString)), fullCount), str("x")),
	} {
		v, e := Arr(l)
		expect(t, "Arr beyond a limit", v, e, null, api.ErrLimit)
	}
}

func TestP2_3Obj(t *testing.T) {
	for _, x := range []struct {
		keys []string
		l    []api.Value
		want api.Value
	}{
		{nil, nil, bare}, {[]string{}, nil, bare}, {[]string{"a"}, []api.Value{empty}, obj([]string{"a"}, empty)},
		{[]string{"b", "a", "b"}, []api.Value{num(1), num(2), num(3)}, obj([]string{"a", "b"}, num(2), num(3))},
		{[]string{"b", "b", "b"}, []api.Value{num(3), num(1), num(2)}, obj([]string{"b"}, num(2))},
		{[]string{"é", "b", "", "a", "B"}, []api.Value{num(1), num(2), num(3), num(4), num(5)}, obj([]string{"", "B", "a", "b", "é"}, num(3), num(5), num(4), num(2), num(1))},
		{[]string{"\U00010000", "\uFFFF"}, []api.Value{num(1), num(2)}, obj([]string{"\uFFFF", "\U00010000"}, num(2), num(1))},
		{[]string{"a", "aa", "a"}, []api.Value{num(1), num(2), null}, obj([]string{"a", "aa"}, null, num(2))},
		{[]string{"a\x00", "a"}, []api.Value{num(1), num(2)}, obj([]string{"a", "a\x00"}, num(2), num(1))},
		{[]string{"", "", "x", ""}, []api.Value{num(1), bare, num(2), no}, obj([]string{"", "x"}, no, num(2))},
	} {
		v, e := Obj(x.keys, x.l)
		expect(t, "Obj "+strings.Join(x.keys, ","), v, e, x.want, 0)
	}
}

// The last one of many members with a key counts, and members that are replaced do not count for the limits.
func TestP2_3ObjReplaced(t *testing.T) {
	distinct := numbered(row, 5)
	var keys []string
	var l, first, last []api.Value
	for i := range row {
		first = append(first, num(int64(i)))
		last = append(last, num(int64(i+2*row)))
	}
	for round := range 3 {
		for i, key := range distinct {
			keys = append(keys, key)
			l = append(l, num(int64(i+round*row)))
		}
	}
	v, e := Obj(keys, l)
	expect(t, "Obj of members that are replaced", v, e, obj(distinct, last...), 0)
	slices.Reverse(keys)
	slices.Reverse(l)
	v, e = Obj(keys, l)
	expect(t, "Obj of members in descending order", v, e, obj(distinct, first...), 0)

	full := arr(repeat(str(strings.Repeat("x", fullString)), fullCount-1)...)
	v, e = Obj([]string{"a", "a", "a"}, []api.Value{mostNodes(), full, full})
	expect(t, "Obj of large members that are replaced", v, e, obj([]string{"a"}, full), 0)
	v, e = Obj([]string{"a", "a"}, []api.Value{nested(null, api.MaxDepth), num(1)})
	expect(t, "Obj of a deep member that is replaced", v, e, obj([]string{"a"}, num(1)), 0)
}

func TestP2_3ObjOrderOfMembers(t *testing.T) {
	keys := []string{"d", "a", "c", "b"}
	l := []api.Value{num(4), num(1), num(3), num(2)}
	want := obj([]string{"a", "b", "c", "d"}, num(1), num(2), num(3), num(4))
	for i := range keys {
		for j := range keys {
			keys[i], keys[j] = keys[j], keys[i]
			l[i], l[j] = l[j], l[i]
			v, e := Obj(keys, l)
			expect(t, "Obj "+strings.Join(keys, ","), v, e, want, 0)
		}
	}
}

func TestP2_3ObjErrors(t *testing.T) {
	bad := api.Value{Kind: 9}
	long := strings.Repeat("x", fullString)
	for _, x := range []struct {
		name string
		keys []string
		l    []api.Value
		want api.Errno
	}{
		{"no elements", []string{"a"}, nil, api.ErrRange}, {"no keys", nil, []api.Value{null}, api.ErrRange},
		{"all errors", append(repeatKeys("\xff", row+1), long+"x"), repeat(bad, row+1), api.ErrRange},
		{"three errors", append(repeatKeys("\xff", row+1), long+"x"), repeat(bad, row+2), api.ErrInvalid},
		{"element not valid", []string{"a", "b"}, []api.Value{null, bad}, api.ErrInvalid},
		{"element not valid and replaced", []string{"a", "a"}, []api.Value{bad, null}, api.ErrInvalid},
		{"element not valid and a limit", []string{"a", long + "x"}, []api.Value{bad, null}, api.ErrInvalid},
		{"key not UTF-8", []string{"a", "\xff"}, []api.Value{null, null}, api.ErrUTF8},
		{"equal keys not UTF-8", []string{"\xc3", "\xc3"}, []api.Value{null, null}, api.ErrUTF8},
		{"key not UTF-8 and a limit", append(numbered(row+1, 5), "a\xe9"), repeat(null, row+2), api.ErrUTF8},
		{"long key not UTF-8", []string{long + "\xff"}, []api.Value{null}, api.ErrUTF8},
		{"long key", []string{long + "x"}, []api.Value{null}, api.ErrLimit},
		{"many members", numbered(row+1, 5), repeat(null, row+1), api.ErrLimit},
		{"deep member", []string{"a"}, []api.Value{nested(null, api.MaxDepth)}, api.ErrLimit},
		{"many nodes", numbered(4, 5), repeat(arr(repeat(null, row-1)...), 4), api.ErrLimit},
		{"many bytes", append(numbered(fullCount, fullString), "x"), repeat(null, fullCount+1), api.ErrLimit},
	} {
		v, e := Obj(x.keys, x.l)
		expect(t, "Obj with "+x.name, v, e, null, x.want)
	}
	for _, x := range badValues() {
		v, e := Obj([]string{"a", "b"}, []api.Value{null, x.v})
		expect(t, "Obj with "+x.name, v, e, null, api.ErrInvalid)
	}
}

func repeatKeys(key string, n int) []string {
	return slices.Repeat([]string{key}, n)
}

func TestP2_4Get(t *testing.T) {
	keys := []string{"", "B", "a", "aa", "é", "\uFFFF", "\U00010000"}
	l := []api.Value{null, yes, arr(num(1)), bare, num(1), str("x"), no}
	v := obj(keys, l...)
	for i, key := range keys {
		if got, ok := Get(v, key); !ok || !identical(got, l[i]) {
			t.Errorf("Get %q: %s %v", key, show(got), ok)
		}
	}
	large := obj(numbered(row, 5), repeat(num(3), row)...)
	for i, key := range large.Keys {
		large.Elems[i] = num(int64(i))
		if got, ok := Get(large, key); !ok || !identical(got, num(int64(i))) {
			t.Errorf("Get %q: %s %v", key, show(got), ok)
		}
	}
}

func TestP2_4GetNothing(t *testing.T) {
	nothing := func(name string, v api.Value, key string) {
		t.Helper()
		if got, ok := Get(v, key); ok || !identical(got, null) {
			t.Errorf("Get %q of %s: %s %v", key, name, show(got), ok)
		}
	}
	v := obj([]string{"a", "c", "cc"}, num(1), num(2), num(3))
	for _, key := range []string{"", "A", "aa", "b", "ca", "ccc", "d", "\xff", strings.Repeat("a", 2*fullString)} {
		nothing("an object", v, key)
		nothing("the empty object", bare, key)
	}
	for _, x := range goodValues() {
		if x.v.Kind != api.Object {
			nothing(x.name, x.v, "a")
			nothing(x.name, x.v, "")
		}
	}
	for _, x := range badValues() {
		for _, key := range append([]string{"", "a", "b", "z", "\xff"}, x.v.Keys...) {
			nothing(x.name, x.v, key)
		}
	}
}

// spoil overwrites all slices of a value with their spare capacity.
func spoil(v api.Value) {
	keys, elems := v.Keys[:cap(v.Keys)], v.Elems[:cap(v.Elems)]
	for i := range keys {
		keys[i] = "spoilt"
	}
	for i := range elems {
		spoil(elems[i])
		elems[i] = num(-77)
	}
}

func sample() api.Value {
	return obj([]string{"a", "b"}, arr(num(1), obj([]string{"c"}, arr(num(2)))), arr(empty, num(3)))
}

func TestResultsAreNewMemory(t *testing.T) {
	l := []api.Value{sample(), sample(), num(1)}
	keys := []string{"y", "x", "y"}
	v, _ := Arr(l[:2])
	w, _ := Arr(l[:2])
	spoil(v)
	expect(t, "Arr shares memory with another result", w, 0, arr(sample(), sample()), 0)
	v, _ = Obj(keys[:2], l[:2])
	w, _ = Obj(keys[:2], l[:2])
	spoil(v)
	expect(t, "Obj shares memory with another result", w, 0, obj([]string{"x", "y"}, sample(), sample()), 0)
	expect(t, "a function shares memory with its argument", arr(l...), 0, arr(sample(), sample(), num(1)), 0)
	if !slices.Equal(keys, []string{"y", "x", "y"}) {
		t.Error("Obj changes its keys", keys)
	}
	whole := sample()
	v, _ = Get(whole, "a")
	w, _ = Get(whole, "a")
	spoil(v)
	expect(t, "Get shares memory with another result", w, 0, sample().Elems[0], 0)
	expect(t, "Get shares memory with its argument", whole, 0, sample(), 0)
}

// An argument may name one slice in several places. In a result, each slice has memory of its own.
func TestSlicesOfResultsAreApart(t *testing.T) {
	inner := arr(num(1))
	twice := arr(inner, inner)
	check := func(name string, v api.Value, want api.Value) {
		t.Helper()
		expect(t, name, v, 0, want, 0)
		spoil(v.Elems[0])
		expect(t, name+" shares memory between its elements", v.Elems[1], 0, want.Elems[1], 0)
	}
	v, _ := Arr([]api.Value{inner, inner})
	check("Arr", v, arr(arr(num(1)), arr(num(1))))
	v, _ = Obj([]string{"a", "b"}, []api.Value{inner, inner})
	check("Obj", v, obj([]string{"a", "b"}, arr(num(1)), arr(num(1))))
	v, _ = Get(obj([]string{"a"}, twice), "a")
	check("Get", v, arr(arr(num(1)), arr(num(1))))
}
