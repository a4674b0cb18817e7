package table

import (
	"fmt"
	"math"
	"slices"
	"strings"
	"testing"

	"ndjq/api"
	"ndjq/value"
)

const (
	row       = api.MaxElems
	length    = api.MaxString
	fullCount = api.MaxBytes / api.MaxString
)

func num(n int64) api.Value {
	return api.Value{Kind: api.Number, Int: n}
}

func str(s string) api.Value {
	return api.Value{Kind: api.String, Str: s}
}

func arr(l ...api.Value) api.Value {
	return api.Value{Kind: api.Array, Elems: l}
}

func obj(keys []string, l ...api.Value) api.Value {
	return api.Value{Kind: api.Object, Keys: keys, Elems: l}
}

func many(v api.Value, n int) []api.Value {
	return slices.Repeat([]api.Value{v}, n)
}

func repeated(s string, n int) api.Value {
	return str(strings.Repeat(s, n))
}

// ones returns an array of n numbers.
func ones(n int) api.Value {
	return arr(many(num(1), n)...)
}

// nested encloses v in n arrays.
func nested(v api.Value, n int) api.Value {
	for range n {
		v = arr(v)
	}
	return v
}

// numbered returns n ascending keys of at least five bytes.
func numbered(n, size int) []string {
	keys := make([]string, n)
	for i := range keys {
		keys[i] = fmt.Sprintf("%05d", i) + strings.Repeat("x", size-5)
	}
	return keys
}

// texts returns the array of strings.
func texts(l []string) api.Value {
	v := arr()
	for _, s := range l {
		v.Elems = append(v.Elems, str(s))
	}
	return v
}

// upTo returns the array of the numbers below n.
func upTo(n int) api.Value {
	v := arr()
	for i := range n {
		v.Elems = append(v.Elems, num(int64(i)))
	}
	return v
}

// downTo returns the array of the numbers below n from the greatest one.
func downTo(n int) api.Value {
	v := upTo(n)
	slices.Reverse(v.Elems)
	return v
}

// entry returns the object with the members key and value.
func entry(key, v api.Value) api.Value {
	return obj([]string{"key", "value"}, key, v)
}

// mostNodes returns an array with as many nodes as a value may have.
func mostNodes() api.Value {
	return arr(ones(row-1), ones(row-1), ones(row-1), ones(row-2))
}

// mostBytes returns an array with as many bytes in strings as a value may have.
func mostBytes() api.Value {
	return arr(many(repeated("x", length), fullCount)...)
}

// large is a call with valid arguments that are, or whose result is, near a limit; w is the second argument of a function that has one.
type large struct {
	name, function string
	v, w           api.Value
	want           api.Value
	e              api.Errno
}

func tooMuch(name, function string, v, w api.Value) large {
	return large{name, function, v, w, api.Value{}, api.ErrLimit}
}

func expectLarge(t *testing.T, l []large) {
	t.Helper()
	for _, x := range l {
		if !value.Valid(x.v) || !value.Valid(x.w) || !value.Valid(x.want) {
			t.Errorf("%s with %s is a test of a value that is not valid", x.function, x.name)
		}
		var got string
		if f, ok := unaries()[x.function]; ok {
			got = outcome(f(x.v))
		} else {
			got = outcome(binaries()[x.function](x.v, x.w))
		}
		if want := outcome(x.want, x.e); got != want {
			t.Errorf("%s with %s is %s; expected %s", x.function, x.name, brief(got), brief(want))
		}
	}
}

func TestP9_1Limits(t *testing.T) {
	null, yes, no := api.Value{}, api.Value{Kind: api.True}, api.Value{Kind: api.False}
	wide := obj(numbered(row, 64), many(num(1), row)...)
	deep := nested(arr(), api.MaxDepth-1)
	expectLarge(t, []large{
		{"most elements", "Length", ones(row), null, num(row), 0}, {"most members", "Length", wide, null, num(row), 0}, {"the longest string", "Length", repeated("a", length), null, num(length), 0}, {"the longest string of two bytes", "Length", repeated("é", length/2), null, num(length / 2), 0}, {"the longest string of four bytes", "Length", repeated("😀", length/4), null, num(length / 4), 0}, {"most nodes", "Length", mostNodes(), null, num(4), 0}, {"most depth", "Length", deep, null, num(1), 0},
		{"most elements", "Keys", ones(row), null, upTo(row), 0}, {"most bytes of keys", "Keys", wide, null, texts(wide.Keys), 0}, {"most nodes", "Keys", mostNodes(), null, upTo(4), 0}, {"a long key", "Keys", obj([]string{strings.Repeat("x", length)}, arr(mostBytes().Elems[1:]...)), null, arr(repeated("x", length)), 0}, {"most depth", "Keys", deep, null, arr(num(0)), 0},
		{"most elements", "Values", ones(row), null, ones(row), 0}, {"most members", "Values", wide, null, ones(row), 0}, {"most nodes", "Values", mostNodes(), null, mostNodes(), 0}, {"most bytes", "Values", mostBytes(), null, mostBytes(), 0}, {"most depth", "Values", deep, null, deep, 0}, {"most depth in an object", "Values", obj([]string{"a"}, nested(arr(), api.MaxDepth-2)), null, deep, 0}, {"most nodes in an object", "Values", obj([]string{"a", "b", "c", "d"}, mostNodes().Elems...), null, mostNodes(), 0},
		{"the first key", "Has", wide, str(wide.Keys[0]), yes, 0}, {"the last key", "Has", wide, str(wide.Keys[row-1]), yes, 0}, {"another key", "Has", wide, str(wide.Keys[row-1] + "x"), no, 0}, {"the longest string", "Has", wide, repeated("x", length), no, 0}, {"the last index", "Has", ones(row), num(row - 1), yes, 0}, {"the index behind it", "Has", ones(row), num(row), no, 0}, {"an index of 33 bits", "Has", ones(row), num(1<<32 + 1), no, 0}, {"the least index", "Has", ones(row), num(math.MinInt64), no, 0},
	})
}

func TestP9_2Limits(t *testing.T) {
	yes, no := api.Value{Kind: api.True}, api.Value{Kind: api.False}
	wide := obj(numbered(row, 64), many(num(1), row)...)
	// Each part of one is compared with many parts of the other.
	flat := func(n int64) api.Value {
		return arr(arr(many(num(n), row-1)...), arr(many(num(n), row-1)...), arr(many(num(n), row-1)...), arr(many(num(n), row-2)...))
	}
	expectLarge(t, []large{
		{"most elements", "Contains", upTo(row), downTo(row), yes, 0}, {"most elements and another", "Contains", upTo(row), arr(num(-1)), no, 0}, {"most members", "Contains", wide, wide, yes, 0}, {"most nodes", "Contains", mostNodes(), mostNodes(), yes, 0}, {"most nodes and others", "Contains", flat(1), flat(2), no, 0}, {"most bytes", "Contains", mostBytes(), mostBytes(), yes, 0}, {"most bytes and another", "Contains", mostBytes(), arr(repeated("y", length)), no, 0},
		{"most depth", "Contains", nested(str("ab"), api.MaxDepth), nested(str("b"), api.MaxDepth), yes, 0}, {"most depth and another", "Contains", nested(str("ab"), api.MaxDepth), nested(str("c"), api.MaxDepth), no, 0}, {"most depth and another kind", "Contains", nested(str("ab"), api.MaxDepth), nested(num(1), api.MaxDepth), api.Value{}, api.ErrType}, {"the longest string", "Contains", repeated("a", length), repeated("a", length), yes, 0}, {"the longest string and another", "Contains", repeated("a", length), str(strings.Repeat("a", length-1) + "b"), no, 0}, {"an end of the longest string", "Contains", repeated("a", length), repeated("a", length-1), yes, 0},
	})
}

func TestP9_3LimitsOfSums(t *testing.T) {
	null, half := api.Value{}, repeated("x", length/2)
	members := func(from, n int) api.Value { return obj(numbered(from+n, 5)[from:], many(num(1), n)...) }
	expectLarge(t, []large{
		{"the longest string", "Add", arr(half, half), null, repeated("x", length), 0}, tooMuch("a letter too much", "Add", arr(half, half, str("y")), null), {"the longest string and null", "Add", arr(half, null, half, null, str("")), null, repeated("x", length), 0}, tooMuch("most bytes", "Add", mostBytes(), null), {"most strings", "Add", arr(many(str("four"), row)...), null, repeated("four", row), 0}, tooMuch("most longer strings", "Add", arr(many(str("fives"), row)...), null),
		{"most elements", "Add", arr(ones(row/2), ones(row/2)), null, ones(row), 0}, tooMuch("an element too much", "Add", arr(ones(row/2), ones(1), ones(row/2)), null), tooMuch("most nodes", "Add", mostNodes(), null), {"most arrays", "Add", arr(many(arr(num(1)), row)...), null, ones(row), 0}, {"most numbers", "Add", upTo(row), null, num(row * (row - 1) / 2), 0}, {"most depth", "Add", nested(arr(), api.MaxDepth-1), null, nested(arr(), api.MaxDepth-2), 0}, {"one array with most bytes", "Add", arr(append(many(arr(), row-1), mostBytes())...), null, mostBytes(), 0},
		{"most members", "Add", arr(members(0, row/2), members(row/2, row/2)), null, members(0, row), 0}, tooMuch("a member too much", "Add", arr(members(0, row/2), members(row/2, row/2+1)), null), {"the same members", "Add", arr(members(0, row), members(0, row), members(row-1, 1)), null, members(0, row), 0}, {"most nodes in an object", "Add", obj([]string{"a", "b"}, ones(row/2), ones(row/2)), null, ones(row), 0},
		// The first sum with an error counts, not the first error of the list.
		tooMuch("a limit before a type", "Add", arr(half, half, half, num(1)), null), {"a type before a limit", "Add", arr(half, half, num(1), half), null, null, api.ErrType}, tooMuch("most elements before a type", "Add", arr(ones(row), ones(1), str("a")), null), {"a type before most elements", "Add", arr(ones(row), str("a"), ones(1)), null, null, api.ErrType}, tooMuch("most members before a type", "Add", arr(members(0, row), members(row, 1), arr()), null), {"a type before most members", "Add", arr(members(0, row), arr(), members(row, 1)), null, null, api.ErrType},
	})
}

func TestP9_3Limits(t *testing.T) {
	null, yes, no := api.Value{}, api.Value{Kind: api.True}, api.Value{Kind: api.False}
	all := []int64{0, 1, 2, math.MaxInt64}
	for _, depth := range all {
		expectLarge(t, []large{{"most elements", "Flatten", upTo(row), num(depth), upTo(row), 0}, {"most bytes", "Flatten", mostBytes(), num(depth), mostBytes(), 0}})
	}
	expectLarge(t, []large{
		{"two halves", "Flatten", arr(ones(row/2), ones(row/2)), num(1), ones(row), 0}, tooMuch("two halves and a number", "Flatten", arr(ones(row/2), num(1), ones(row/2)), num(1)), {"two halves and an empty array", "Flatten", arr(ones(row/2), arr(), ones(row/2)), num(1), ones(row), 0}, {"two halves that stay", "Flatten", arr(ones(row/2), num(1), ones(row/2)), num(0), arr(ones(row/2), num(1), ones(row/2)), 0}, tooMuch("most nodes", "Flatten", mostNodes(), num(1)), {"most nodes that stay", "Flatten", mostNodes(), num(0), mostNodes(), 0}, tooMuch("most nodes and most depth", "Flatten", mostNodes(), num(math.MaxInt64)), {"most nodes and a negative depth", "Flatten", mostNodes(), num(-1), null, api.ErrRange},
		tooMuch("inner halves", "Flatten", arr(arr(ones(row), num(1))), num(2)), {"inner halves that stay", "Flatten", arr(arr(ones(row), num(1))), num(1), arr(ones(row), num(1)), 0}, {"most depth", "Flatten", nested(num(1), api.MaxDepth), num(api.MaxDepth - 1), arr(num(1)), 0}, {"less depth", "Flatten", nested(num(1), api.MaxDepth), num(api.MaxDepth - 2), nested(num(1), 2), 0}, {"no depth", "Flatten", nested(num(1), api.MaxDepth), num(0), nested(num(1), api.MaxDepth), 0}, {"no elements in most depth", "Flatten", nested(arr(), api.MaxDepth-1), num(math.MaxInt64), arr(), 0},
		{"most elements", "Reverse", upTo(row), null, downTo(row), 0}, {"most nodes", "Reverse", mostNodes(), null, arr(ones(row-2), ones(row-1), ones(row-1), ones(row-1)), 0}, {"most bytes", "Reverse", mostBytes(), null, mostBytes(), 0}, {"most depth", "Reverse", nested(num(1), api.MaxDepth), null, nested(num(1), api.MaxDepth), 0}, {"the longest string", "Reverse", str(strings.Repeat("a", length-1) + "b"), null, str("b" + strings.Repeat("a", length-1)), 0}, {"the longest string of four bytes", "Reverse", str("é" + strings.Repeat("😀", length/4-1)), null, str(strings.Repeat("😀", length/4-1) + "é"), 0},
		{"the last element", "Any", arr(append(many(null, row-1), num(0))...), null, yes, 0}, {"no element", "Any", arr(many(no, row)...), null, no, 0}, {"the last element", "All", arr(append(many(num(0), row-1), no)...), null, no, 0}, {"every element", "All", arr(many(num(0), row)...), null, yes, 0}, {"most nodes", "All", mostNodes(), null, yes, 0}, {"most bytes", "Any", mostBytes(), null, yes, 0}, {"most depth", "All", nested(no, api.MaxDepth), null, yes, 0},
	})
}

// singles returns the array of arrays of one element.
func singles(v api.Value) api.Value {
	l := arr()
	for _, elem := range v.Elems {
		l.Elems = append(l.Elems, arr(elem))
	}
	return l
}

func TestP9_4Limits(t *testing.T) {
	same := ones(row)
	expectLarge(t, []large{
		{"most elements", "SortBy", upTo(row), downTo(row), downTo(row), 0}, {"most elements with one key", "SortBy", upTo(row), same, upTo(row), 0}, {"most nodes", "SortBy", mostNodes(), upTo(4), mostNodes(), 0}, {"most nodes as keys", "SortBy", upTo(4), mostNodes(), arr(num(3), num(0), num(1), num(2)), 0}, {"most bytes", "SortBy", mostBytes(), downTo(fullCount), mostBytes(), 0}, {"most bytes as keys", "SortBy", upTo(fullCount), mostBytes(), upTo(fullCount), 0}, {"most depth", "SortBy", nested(num(1), api.MaxDepth), ones(1), nested(num(1), api.MaxDepth), 0},
		{"most groups", "GroupBy", upTo(row), upTo(row), singles(upTo(row)), 0}, {"the longest group", "GroupBy", upTo(row), same, arr(upTo(row)), 0}, {"most bytes", "GroupBy", mostBytes(), ones(fullCount), arr(mostBytes()), 0}, {"most depth", "GroupBy", nested(num(1), api.MaxDepth-1), ones(1), nested(num(1), api.MaxDepth), 0}, tooMuch("an array too deep", "GroupBy", nested(num(1), api.MaxDepth), ones(1)), {"most depth of keys", "GroupBy", ones(1), nested(num(1), api.MaxDepth), arr(ones(1)), 0},
		tooMuch("most nodes in one group", "GroupBy", mostNodes(), ones(4)), {"a node less in one group", "GroupBy", arr(mostNodes().Elems[1:]...), ones(3), arr(arr(mostNodes().Elems[1:]...)), 0}, {"nodes for one group", "GroupBy", arr(ones(row-1), ones(row-1), ones(row-1), ones(row-3)), ones(4), arr(arr(ones(row-1), ones(row-1), ones(row-1), ones(row-3))), 0}, tooMuch("nodes for one of two groups", "GroupBy", arr(ones(row-1), ones(row-1), ones(row-1), ones(row-3)), arr(num(1), num(1), num(1), num(2))), {"nodes for two groups", "GroupBy", arr(ones(row-1), ones(row-1), ones(row-1), ones(row-4)), arr(num(1), num(1), num(1), num(2)), arr(arr(ones(row-1), ones(row-1), ones(row-1)), arr(ones(row-4))), 0},
		{"most groups", "UniqueBy", upTo(row), downTo(row), downTo(row), 0}, {"the longest group", "UniqueBy", upTo(row), same, arr(num(0)), 0}, {"most nodes", "UniqueBy", mostNodes(), ones(4), arr(ones(row - 1)), 0}, {"most nodes in groups", "UniqueBy", mostNodes(), upTo(4), mostNodes(), 0}, {"most depth", "UniqueBy", nested(num(1), api.MaxDepth), ones(1), nested(num(1), api.MaxDepth), 0},
		{"most elements", "MinBy", upTo(row), downTo(row), num(row - 1), 0}, {"the longest group", "MinBy", upTo(row), same, num(0), 0}, {"most depth", "MinBy", nested(num(1), api.MaxDepth), ones(1), nested(num(1), api.MaxDepth-1), 0}, {"most nodes", "MinBy", mostNodes(), mostNodes(), ones(row - 2), 0}, {"a node less than most", "MinBy", arr(arr(ones(row-1), ones(row-1), ones(row-1), ones(row-3))), ones(1), arr(ones(row-1), ones(row-1), ones(row-1), ones(row-3)), 0},
		{"most elements", "MaxBy", upTo(row), downTo(row), num(0), 0}, {"the longest group", "MaxBy", upTo(row), same, num(row - 1), 0}, {"most depth", "MaxBy", nested(num(1), api.MaxDepth), ones(1), nested(num(1), api.MaxDepth-1), 0}, {"most bytes", "MaxBy", arr(mostBytes()), ones(1), mostBytes(), 0}, {"most nodes", "MaxBy", mostNodes(), mostNodes(), ones(row - 1), 0},
	})
	for name, f := range sorters() {
		if got := outcome(f(upTo(row), upTo(row-1))); got != outOfRange {
			t.Errorf("%s of most elements and a key less is %s", name, brief(got))
		}
		if got := outcome(f(nested(mostNodes().Elems[0], api.MaxDepth-1), arr())); got != outOfRange {
			t.Errorf("%s of an array that is too deep for a group and no key is %s", name, brief(got))
		}
	}
}

func TestP9_5LimitsOfEntries(t *testing.T) {
	null := api.Value{}
	one := func(v api.Value) api.Value { return obj([]string{"a"}, v) }
	wide, entries := obj(numbered(row, 56), many(num(1), row)...), arr()
	for _, key := range wide.Keys {
		entries.Elems = append(entries.Elems, entry(str(key), num(1)))
	}
	whole := arr(ones(row-1), ones(row-1), ones(row-1))
	bytes := func(last int) api.Value {
		return arr(append(many(repeated("x", length), fullCount-1), repeated("y", last))...)
	}
	expectLarge(t, []large{
		{"most members with most bytes", "ToEntries", wide, null, entries, 0}, tooMuch("most members and a byte too much", "ToEntries", obj(append([]string{"0000"}, wide.Keys[1:]...), append(many(num(1), row-1), repeated("a", 53))...), null), {"most depth", "ToEntries", one(nested(num(1), api.MaxDepth-2)), null, arr(entry(str("a"), nested(num(1), api.MaxDepth-2))), 0}, tooMuch("an array too deep", "ToEntries", one(nested(num(1), api.MaxDepth-1)), null),
		{"most nodes in one entry", "ToEntries", one(arr(append(whole.Elems, ones(row-5))...)), null, arr(entry(str("a"), arr(append(whole.Elems, ones(row-5))...))), 0}, tooMuch("a node too much in all", "ToEntries", one(arr(append(whole.Elems, ones(row-4))...)), null), tooMuch("a node too much in the entry", "ToEntries", one(arr(append(whole.Elems, ones(row-3))...)), null), {"most nodes in many entries", "ToEntries", obj(numbered(row, 5), append(many(num(1), row-1), ones(1023))...), null, arr(append(entriesOf(numbered(row, 5)[:row-1]), entry(str("01023"), ones(1023)))...), 0}, tooMuch("a node too much in many entries", "ToEntries", obj(numbered(row, 5), append(many(num(1), row-2), arr(), ones(1024))...), null),
		{"most bytes in one entry", "ToEntries", one(bytes(length - 9)), null, arr(entry(str("a"), bytes(length-9))), 0}, tooMuch("a byte too much in the entry", "ToEntries", one(bytes(length-8)), null), tooMuch("most bytes in the object", "ToEntries", one(bytes(length-1)), null),
	})
}

// entriesOf returns the entries of members with the value 1.
func entriesOf(keys []string) []api.Value {
	l := []api.Value{}
	for _, key := range keys {
		l = append(l, entry(str(key), num(1)))
	}
	return l
}

// longNumbers returns n numbers whose texts have 20 bytes, in ascending order of their texts.
func longNumbers(n int) []api.Value {
	l := []api.Value{}
	for i := range n {
		l = append(l, num(math.MinInt64+7+int64(n-1-i)))
	}
	return l
}

func TestP9_5LimitsOfObjects(t *testing.T) {
	const members = 1000
	null := api.Value{}
	// The keys have more bytes as strings than the names of their members: 8 in an entry, and 20 in the object.
	numbers := func(size int) (api.Value, api.Value) {
		entries, want := arr(), obj(nil)
		for i, n := range longNumbers(members) {
			v := repeated("x", size/members)
			if i < size%members {
				v.Str += "x"
			}
			entries.Elems = append(entries.Elems, entry(n, v))
			want.Keys, want.Elems = append(want.Keys, fmt.Sprint(n.Int)), append(want.Elems, v)
		}
		slices.Sort(want.Keys)
		slices.SortStableFunc(want.Elems, func(a, b api.Value) int { return len(b.Str) - len(a.Str) })
		return entries, want
	}
	fits, want := numbers(api.MaxBytes - 20*members)
	more, _ := numbers(api.MaxBytes - 20*members + 1)
	most, _ := numbers(api.MaxBytes - 8*members)
	keys := numbered(row, 5)
	expectLarge(t, []large{
		{"most members", "FromEntries", arr(entriesOf(keys)...), null, obj(keys, many(num(1), row)...), 0}, {"one key for most elements", "FromEntries", arr(many(entry(str("a"), num(1)), row)...), null, obj([]string{"a"}, num(1)), 0}, {"most elements without a key", "FromEntries", arr(many(obj(nil), row)...), null, obj([]string{"null"}, null), 0}, {"most depth", "FromEntries", arr(entry(str("a"), nested(num(1), api.MaxDepth-2))), null, obj([]string{"a"}, nested(num(1), api.MaxDepth-2)), 0}, {"the longest key", "FromEntries", arr(entry(repeated("é", length/2), num(1))), null, obj([]string{strings.Repeat("é", length/2)}, num(1)), 0},
		{"most bytes of the result", "FromEntries", fits, null, want, 0}, tooMuch("a byte too much", "FromEntries", more, null), tooMuch("most bytes of the argument", "FromEntries", most, null), {"a wrong key behind a byte too much", "FromEntries", arr(append(slices.Clone(more.Elems), entry(arr(), null))...), null, null, api.ErrType}, {"a wrong element behind a byte too much", "FromEntries", arr(append(slices.Clone(more.Elems), null)...), null, null, api.ErrType},
	})
}

// rows returns n arrays of no elements before one of the elements.
func rows(n int, l ...api.Value) api.Value {
	return arr(append(many(arr(), n), arr(l...))...)
}

// filled returns n arrays of m times null before an element.
func filled(n, m int, v api.Value) api.Value {
	return arr(many(arr(append(many(api.Value{}, m), v)...), n)...)
}

func TestP9_6Limits(t *testing.T) {
	null, one := api.Value{}, num(1)
	deep := nested(one, api.MaxDepth)
	expectLarge(t, []large{
		{"the longest row", "Transpose", arr(upTo(row)), null, singles(upTo(row)), 0}, {"most rows", "Transpose", singles(upTo(row)), null, arr(upTo(row)), 0}, {"most rows without elements", "Transpose", arr(many(arr(), row)...), null, arr(), 0}, {"most depth", "Transpose", deep, null, deep, 0}, {"most bytes", "Transpose", arr(mostBytes()), null, singles(mostBytes()), 0}, {"a square", "Transpose", filled(63, 62, one), null, arr(append(many(arr(many(null, 63)...), 62), ones(63))...), 0}, tooMuch("a square that is too large", "Transpose", rows(63, many(one, 64)...), null),
		{"most nodes", "Transpose", rows(817, many(one, 5)...), null, filled(5, 817, one), 0}, tooMuch("a node too much", "Transpose", rows(1022, many(one, 4)...), null), tooMuch("four nodes too much", "Transpose", rows(1023, many(one, 4)...), null), tooMuch("a part of a node too much", "Transpose", rows(817, arr(one), one, one, one, one), null), {"two elements less", "Transpose", rows(816, many(one, 5)...), null, filled(5, 816, one), 0}, {"most places", "Transpose", rows(2, many(one, row-1)...), null, filled(row-1, 2, one), 0}, tooMuch("a column too much", "Transpose", rows(2, many(one, row)...), null), tooMuch("more places", "Transpose", rows(3, many(one, row)...), null), tooMuch("a million places", "Transpose", rows(1023, many(one, row)...), null), {"most rows with one element", "Transpose", rows(1023, one), null, filled(1, 1023, one), 0},
		{"most nodes in rows", "Transpose", arr(many(ones(4), 819)...), null, arr(many(ones(819), 4)...), 0}, tooMuch("a long row of arrays", "Transpose", arr(arr(many(ones(2), row)...)), null), {"a shorter row of arrays", "Transpose", arr(arr(many(ones(1), row)...)), null, singles(arr(many(ones(1), row)...)), 0}, {"a wrong row behind many places", "Transpose", arr(append(many(arr(), 1022), ones(row), one)...), null, null, api.ErrType}, {"a wrong row before many places", "Transpose", arr(append([]api.Value{one, ones(row)}, many(arr(), 1022)...)...), null, null, api.ErrType},
	})
}
