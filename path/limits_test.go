package path

import (
	"fmt"
	"math"
	"slices"
	"strings"
	"testing"

	"ndjq/api"
	"ndjq/jsonwrite"
	"ndjq/value"
)

const (
	row       = api.MaxElems
	fullCount = api.MaxBytes / api.MaxString
)

func num(n int64) api.Value {
	return api.Value{Kind: api.Number, Int: n}
}

func str(s string) api.Value {
	return api.Value{Kind: api.String, Str: s}
}

func arr(l ...api.Value) api.Value {
	return api.Value{Kind: api.Array, Elems: l}
}

func obj(keys []string, l ...api.Value) api.Value {
	return api.Value{Kind: api.Object, Keys: keys, Elems: l}
}

func many(v api.Value, n int) []api.Value {
	return slices.Repeat([]api.Value{v}, n)
}

// between returns a slice step.
func between(from, to api.Value) api.Value {
	return obj([]string{"end", "start"}, to, from)
}

// nested encloses v in n arrays and objects; the kinds alternate, and the inmost one is an array.
func nested(v api.Value, n int) api.Value {
	for i := range n {
		v = enclose(v, i)
	}
	return v
}

// enclose returns an array of v if i is even, and otherwise an object.
func enclose(v api.Value, i int) api.Value {
	if i%2 == 0 {
		return arr(v)
	}
	return obj([]string{"k"}, v)
}

// into returns the path to v in nested(v, n).
func into(n int) []api.Value {
	steps := []api.Value{}
	for i := range n {
		step := num(0)
		if (n-1-i)%2 == 1 {
			step = str("k")
		}
		steps = append(steps, step)
	}
	return steps
}

// numbered returns n ascending keys of at least five bytes.
func numbered(n, size int) []string {
	keys := make([]string, n)
	for i := range keys {
		keys[i] = fmt.Sprintf("%05d", i) + strings.Repeat("x", size-5)
	}
	return keys
}

// mostNodes returns an array with as many nodes as a value may have, less than a full row in each of its four elements.
func mostNodes() api.Value {
	return arr(arr(many(num(1), row-1)...), arr(many(num(1), row-1)...), arr(many(num(1), row-1)...), arr(many(num(1), row-2)...))
}

// mostBytes returns an array with as many bytes in strings as a value may have.
func mostBytes() api.Value {
	return arr(many(str(strings.Repeat("x", api.MaxString)), fullCount)...)
}

type largeChange struct {
	name    string
	v, p, x api.Value
	want    api.Value
	e       api.Errno
}

func expectLarge(t *testing.T, l []largeChange) {
	t.Helper()
	for _, x := range l {
		if got, want := outcome(Set(x.v, x.p, x.x)), outcome(x.want, x.e); got != want {
			t.Errorf("Set with %s is %s; expected %s", x.name, brief(got), brief(want))
		}
	}
}

func tooMuch(name string, v, p, x api.Value) largeChange {
	return largeChange{name: name, v: v, p: p, x: x, e: api.ErrLimit}
}

func TestP7_2LongArrays(t *testing.T) {
	null, nothing := api.Value{}, arr()
	full := arr(many(num(1), row)...)
	first, last := arr(num(0)), arr(num(row-1))
	front, all := between(num(0), num(0)), between(null, null)
	changed := func(i int) api.Value {
		l := many(num(1), row)
		l[i] = num(2)
		return arr(l...)
	}
	extended := arr(append(many(null, row-1), num(2))...)
	expectLarge(t, []largeChange{
		{"the last index", null, last, num(2), extended, 0}, {"the last index of nothing", nothing, last, num(2), extended, 0}, {"the last index of most", arr(many(null, row-1)...), last, num(2), extended, 0},
		{"the first element", full, first, num(2), changed(0), 0}, {"the last element", full, last, num(2), changed(row - 1), 0}, {"the last element from the end", full, arr(num(-1)), num(2), changed(row - 1), 0}, {"the first element from the end", full, arr(num(-row)), num(2), changed(0), 0},
		tooMuch("an index too much", null, arr(num(row)), num(2)), tooMuch("an index behind the last one", full, arr(num(row)), num(2)), tooMuch("a large index", full, arr(num(math.MaxInt64)), num(2)), tooMuch("an index of null too much", nothing, arr(num(row)), null),
		{name: "an index before the first one", v: full, p: arr(num(-row - 1)), x: num(2), e: api.ErrRange}, {name: "the least index", v: full, p: arr(num(math.MinInt64)), x: num(2), e: api.ErrRange},
		{"a slice of all", full, arr(all), full, full, 0}, {"a slice of one", arr(many(num(1), row-1)...), arr(front), arr(num(1)), full, 0}, {"a slice for another", full, arr(between(num(3), num(4))), arr(num(1)), full, 0}, {"a long slice", arr(num(1), num(2), num(1)), arr(between(num(1), num(2))), arr(many(num(1), row-2)...), full, 0},
		tooMuch("a slice too much", full, arr(front), arr(num(1))), tooMuch("a slice of two for one", full, arr(between(num(-1), null)), arr(num(1), num(1))), tooMuch("a long slice too much", arr(num(1)), arr(front), full), tooMuch("twice all", full, arr(between(num(row), null)), full),
		tooMuch("an index in a slice too much", full, arr(all, num(row)), num(1)), tooMuch("an index in an empty slice too much", full, arr(front, num(0)), num(1)), {"an index in a slice", full, arr(all, num(row-1)), num(2), changed(row - 1), 0},
		{name: "a slice that is no array", v: full, p: arr(front), x: nested(num(1), 30), e: api.ErrType},
	})
}

func TestP7_2ManyMembers(t *testing.T) {
	keys := numbered(row, 5)
	full := obj(keys, many(num(1), row)...)
	replaced := obj(keys, many(num(1), row)...)
	replaced.Elems[row-1] = num(2)
	expectLarge(t, []largeChange{
		{"the last member", obj(keys[:row-1], many(num(1), row-1)...), arr(str(keys[row-1])), num(1), full, 0}, {"the first member", obj(keys[1:], many(num(1), row-1)...), arr(str(keys[0])), num(1), full, 0}, {"a member that is replaced", full, arr(str(keys[row-1])), num(2), replaced, 0},
		tooMuch("a member too much", full, arr(str("x")), num(1)), tooMuch("a member too much at the beginning", full, arr(str("")), num(1)), tooMuch("a member of null too much", full, arr(str("x")), api.Value{}), tooMuch("an inner member too much", obj([]string{"a"}, full), arr(str("a"), str("x")), num(1)),
	})
}

func TestP7_2Depth(t *testing.T) {
	null := api.Value{}
	for n := range api.MaxDepth + 1 {
		p, deepest := arr(into(n)...), nested(num(3), api.MaxDepth-n)
		expectLarge(t, []largeChange{{"a path in nothing", null, p, num(1), nested(num(1), n), 0}, {"the inmost part", nested(num(2), n), p, num(1), nested(num(1), n), 0}, {"a value as deep as may be", nested(num(2), n), p, deepest, nested(deepest, n), 0}})
		if n > 0 {
			deeper := nested(num(3), api.MaxDepth-n+1)
			expectLarge(t, []largeChange{tooMuch("a value too deep", nested(num(2), n), p, deeper), tooMuch("a value too deep for nothing", null, p, deeper)})
		}
	}
	slice := between(null, null)
	for _, n := range []int{api.MaxDepth + 1, api.MaxDepth + 2, 100, row} {
		expectLarge(t, []largeChange{
			tooMuch("a long path", null, arr(into(n)...), num(1)), tooMuch("a long path of names", null, arr(many(str("a"), n)...), num(1)), tooMuch("a long path of indexes", arr(), arr(many(num(0), n)...), num(1)),
			{"a long path of slices", arr(num(1)), arr(many(slice, n)...), arr(num(2)), arr(num(2)), 0}, {"a long path of slices of nothing", null, arr(many(slice, n)...), arr(num(2)), arr(num(2)), 0},
		})
	}
	deep := arr(nested(num(1), api.MaxDepth-1))
	expectLarge(t, []largeChange{{"elements of a deep array", arr(num(1)), arr(slice), deep, deep, 0}, {"elements of a deep array in a slice", arr(num(1)), arr(slice, slice), deep, deep, 0}})
}

func TestP7_2Nodes(t *testing.T) {
	most := mostNodes()
	other := func(i, j int, x api.Value) api.Value {
		v := mostNodes()
		v.Elems[i].Elems[j] = x
		return v
	}
	keys := obj(strings.Split("abcd", ""), most.Elems...)
	expectLarge(t, []largeChange{
		{"most nodes", most, arr(num(0), num(0)), arr(), other(0, 0, arr()), 0}, {"most nodes from less", arr(most.Elems[:3]...), arr(num(3)), most.Elems[3], most, 0}, {"less nodes", most, arr(num(1)), arr(), arr(most.Elems[0], arr(), most.Elems[2], most.Elems[3]), 0}, {"most members", obj(strings.Split("acd", ""), most.Elems[0], most.Elems[2], most.Elems[3]), arr(str("b")), most.Elems[1], keys, 0},
		tooMuch("a node too much", most, arr(num(0), num(0)), arr(num(1))), tooMuch("an element too much", most, arr(num(3), num(row-2)), num(1)), tooMuch("an element of null too much", most, arr(num(4)), api.Value{}), tooMuch("an array too much", most, arr(num(3)), arr(many(num(1), row-1)...)), tooMuch("a member too much", keys, arr(str("e")), num(1)),
		tooMuch("a slice too much", most, arr(num(3), between(num(0), num(0))), arr(num(1))), {"a slice for another", most, arr(between(num(0), num(2))), arr(num(1), num(2)), arr(num(1), num(2), most.Elems[2], most.Elems[3]), 0},
	})
}

func TestP7_2Bytes(t *testing.T) {
	most, long := mostBytes(), strings.Repeat("x", api.MaxString)
	other := mostBytes()
	other.Elems[2] = str(strings.Repeat("y", api.MaxString))
	less := arr(most.Elems[1:]...)
	keyed := obj([]string{"a"}, arr(append(slices.Clone(most.Elems[2:]), str(long[2:]))...))
	expectLarge(t, []largeChange{
		{"most bytes", most, arr(num(2)), other.Elems[2], other, 0}, {"most bytes from less", less, arr(between(num(0), num(0))), arr(str(long)), most, 0}, {"most bytes and nothing", most, arr(num(fullCount)), str(""), arr(append(mostBytes().Elems, str(""))...), 0},
		{"most bytes in keys", obj(numbered(fullCount-1, api.MaxString), many(num(1), fullCount-1)...), arr(str(numbered(fullCount, api.MaxString)[fullCount-1])), num(1), obj(numbered(fullCount, api.MaxString), many(num(1), fullCount)...), 0},
		tooMuch("a byte too much", most, arr(num(fullCount)), str("x")), tooMuch("a key too much", obj(numbered(fullCount, api.MaxString), many(num(1), fullCount)...), arr(str("x")), num(1)), tooMuch("a byte in a key too much", arr(append(mostBytes().Elems, api.Value{})...), arr(num(fullCount), str("x")), num(1)),
		tooMuch("a byte for null", arr(append(mostBytes().Elems, api.Value{})...), arr(num(fullCount)), str("x")), {"a long key", api.Value{}, arr(str(long)), num(1), obj([]string{long}, num(1)), 0}, {"a byte in a key", keyed, arr(str("b")), api.Value{}, obj([]string{"a", "b"}, keyed.Elems[0], api.Value{}), 0},
	})
}

func TestP7_2OrderOfLargeErrors(t *testing.T) {
	full, deep := arr(many(num(1), row)...), nested(num(1), api.MaxDepth)
	expectLarge(t, []largeChange{
		{name: "an index before a deep value", v: full, p: arr(num(-row - 1)), x: deep, e: api.ErrRange}, {name: "a slice before a deep value", v: full, p: arr(between(num(0), num(0))), x: obj([]string{"a"}, nested(num(1), api.MaxDepth-1)), e: api.ErrType},
		tooMuch("an inner index before an outer one", full, arr(num(-row-1), num(row)), num(1)), tooMuch("an inner depth before an outer index", arr(), arr(num(-1), num(0)), deep),
		{name: "a step before an inner depth in a slice", v: arr(), p: arr(between(num(0), num(0)), str("a")), x: deep, e: api.ErrType}, tooMuch("an inner depth of nothing before a slice", api.Value{}, arr(between(num(0), num(0)), str("a")), deep), {name: "a step before an inner depth", v: arr(), p: arr(str("a"), num(0)), x: deep, e: api.ErrType}, {name: "a path that is no array", v: full, p: num(row), x: deep, e: api.ErrType},
	})
}

func TestP7_1LongPaths(t *testing.T) {
	for n := range api.MaxDepth + 1 {
		if got := outcome(Get(nested(num(7), n), arr(into(n)...))); got != "7" {
			t.Errorf("Get at depth %d is %s", n, got)
		}
	}
	null := api.Value{}
	long := arr(many(num(1), row)...)
	text := str(strings.Repeat("é", api.MaxString/2))
	steps := many(between(num(1), null), 600)
	for _, x := range []struct {
		name string
		v, p api.Value
		want string
	}{
		{"names", null, arr(many(str("a"), row)...), "null"}, {"indexes", null, arr(many(num(-1), row)...), "null"}, {"slices", long, arr(steps...), jsonwrite.Text(arr(many(num(1), row-600)...))}, {"slices of a string", text, arr(steps...), jsonwrite.Text(str(strings.Repeat("é", api.MaxString/2-600)))},
		{"slices and an error", text, arr(append(slices.Clone(steps), num(0))...), wrongType}, {"slices and an element", long, arr(append(slices.Clone(steps), num(row-601))...), "1"}, {"slices and no element", long, arr(append(slices.Clone(steps), num(row-600))...), "null"},
		{"the last element", long, arr(num(row - 1)), "1"}, {"behind the last element", long, arr(num(row)), "null"}, {"the first element", long, arr(num(-row)), "1"}, {"before the first element", long, arr(num(-row - 1)), "null"},
		{"a long key", obj(numbered(fullCount, api.MaxString), many(num(1), fullCount)...), arr(str(numbered(fullCount, api.MaxString)[9])), "1"}, {"most members", obj(numbered(row, 5), many(num(1), row)...), arr(str("01023")), "1"}, {"no member", obj(numbered(row, 5), many(num(1), row)...), arr(str("01024")), "null"},
	} {
		if got := outcome(Get(x.v, x.p)); got != x.want {
			t.Errorf("Get with %s is %s; expected %s", x.name, brief(got), brief(x.want))
		}
	}
}

func TestP7_3LargeDeletes(t *testing.T) {
	null := api.Value{}
	var elems, singles, evens, odds []api.Value
	for i := range int64(row) {
		elems, singles = append(elems, num(i)), append(singles, arr(num(i*7%row)))
		if i%2 == 0 {
			evens = append(evens, arr(num(row-2-i)))
		} else {
			odds = append(odds, num(i))
		}
	}
	whole := arr(elems...)
	most, bytes := mostNodes(), mostBytes()
	slice := many(between(num(0), num(row)), 600)
	inmost := arr()
	for i := 1; i < api.MaxDepth; i++ {
		inmost = enclose(inmost, i)
	}
	for _, x := range []struct {
		name  string
		v, ps api.Value
		want  api.Value
	}{
		{"all elements", whole, arr(singles...), arr()}, {"every other element", whole, arr(evens...), arr(odds...)}, {"one element many times", whole, arr(many(arr(num(0)), row)...), arr(elems[1:]...)}, {"all elements as a slice", whole, arr(arr(between(null, null))), arr()}, {"a long path", whole, arr(arr(append(slice, num(0))...)), arr(elems[1:]...)}, {"the last element", whole, arr(arr(num(-1))), arr(elems[:row-1]...)},
		{"a member of many", obj(numbered(row, 5), elems...), arr(arr(str("00000")), arr(str("01024"))), obj(numbered(row, 5)[1:], elems[1:]...)}, {"the inmost part", nested(num(1), api.MaxDepth), arr(arr(into(api.MaxDepth)...)), inmost}, {"an element of most nodes", most, arr(arr(num(1)), arr(num(2), num(0))), arr(most.Elems[0], arr(many(num(1), row-2)...), most.Elems[3])}, {"an element of most bytes", bytes, arr(arr(num(3))), arr(bytes.Elems[1:]...)},
		{"nothing of the largest", most, arr(arr(num(4)), arr(num(-5)), arr(num(0), num(row))), most}, {"nothing of the deepest", nested(num(1), api.MaxDepth), arr(), nested(num(1), api.MaxDepth)}, {"nothing of null", null, arr(arr(many(num(0), row)...)), null},
	} {
		if got, want := outcome(Delete(x.v, x.ps)), outcome(x.want, api.OK); got != want {
			t.Errorf("Delete of %s is %s; expected %s", x.name, brief(got), brief(want))
		}
	}
}

func TestP7_4ManyPaths(t *testing.T) {
	most := mostNodes()
	l := Paths(most)
	if len(l) != api.MaxNodes-1 {
		t.Fatal("paths of most nodes:", len(l))
	}
	at := 0
	for i, elem := range most.Elems {
		want := arr(num(int64(i)))
		for j := -1; j < len(elem.Elems); j++ {
			if j >= 0 {
				want = arr(num(int64(i)), num(int64(j)))
			}
			if got := jsonwrite.Text(l[at]); got != jsonwrite.Text(want) {
				t.Fatal("path", at, "is", got)
			}
			at++
		}
	}
	deep := nested(num(1), api.MaxDepth)
	for i, p := range Paths(deep) {
		if got, want := jsonwrite.Text(p), jsonwrite.Text(arr(into(api.MaxDepth)[:i+1]...)); got != want {
			t.Error("path", i, "is", got)
		}
	}
	// The longest keys, each within the one before.
	keyed, keys := num(1), numbered(fullCount, api.MaxString)
	for _, key := range keys {
		keyed = obj([]string{key}, keyed)
	}
	l = Paths(keyed)
	if len(l) != fullCount || len(l[fullCount-1].Elems) != fullCount {
		t.Fatal("paths of the longest keys:", len(l))
	}
	for _, p := range append(l, Paths(mostBytes())...) {
		if !value.Valid(p) {
			t.Error("a path is not valid:", brief(jsonwrite.Text(p)))
		}
	}
}
