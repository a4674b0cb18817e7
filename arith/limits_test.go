package arith

import (
	"fmt"
	"math"
	"slices"
	"strings"
	"testing"

	"ndjq/api"
	"ndjq/jsonwrite"
)

const (
	row       = api.MaxElems
	fullCount = api.MaxBytes / api.MaxString
)

func num(n int64) api.Value {
	return api.Value{Kind: api.Number, Int: n}
}

func str(s string) api.Value {
	return api.Value{Kind: api.String, Str: s}
}

func arr(l ...api.Value) api.Value {
	return api.Value{Kind: api.Array, Elems: l}
}

func obj(keys []string, l ...api.Value) api.Value {
	return api.Value{Kind: api.Object, Keys: keys, Elems: l}
}

func many(v api.Value, n int) []api.Value {
	return slices.Repeat([]api.Value{v}, n)
}

// nested encloses v in n arrays and objects; the kinds alternate.
func nested(v api.Value, n int) api.Value {
	for i := range n {
		if i%2 == 0 {
			v = arr(v)
		} else {
			v = obj([]string{"k"}, v)
		}
	}
	return v
}

// inside encloses v in n objects.
func inside(v api.Value, n int) api.Value {
	for range n {
		v = obj([]string{"k"}, v)
	}
	return v
}

// numbered returns n ascending keys of at least five bytes from the number from on.
func numbered(from, n, size int) []string {
	keys := make([]string, n)
	for i := range keys {
		keys[i] = fmt.Sprintf("%05d", from+i) + strings.Repeat("x", size-5)
	}
	return keys
}

// members returns an object with n members from the number from on, whose values are v.
func members(from, n int, v api.Value) api.Value {
	return obj(numbered(from, n, 5), many(v, n)...)
}

type limited struct {
	name string
	op   string
	a, b api.Value
	want api.Value
	e    api.Errno
}

func expectLimited(t *testing.T, l []limited) {
	t.Helper()
	for _, x := range l {
		if got, want := binary(x.op, x.a, x.b), outcome(x.want, x.e); got != want {
			t.Errorf("%s with %s is %s; expected %s", x.name, x.op, brief(got), brief(want))
		}
	}
}

func tooMuch(name, op string, a, b api.Value) limited {
	return limited{name: name, op: op, a: a, b: b, e: api.ErrLimit}
}

func TestP6_2LongStrings(t *testing.T) {
	x := func(n int) api.Value { return str(strings.Repeat("x", n)) }
	e := func(n int) api.Value { return str(strings.Repeat("é", n)) }
	full := api.MaxString
	expectLimited(t, []limited{
		{"longest string", "+", x(full - 1), x(1), x(full), 0}, {"longest string and nothing", "+", x(full), x(0), x(full), 0}, {"nothing and longest string", "+", x(0), x(full), x(full), 0}, {"two halves", "+", e(full / 4), e(full / 4), e(full / 2), 0},
		tooMuch("a byte too much", "+", x(full), x(1)), tooMuch("a byte too much at the beginning", "+", x(1), x(full)), tooMuch("a code point too much", "+", e(full/2), e(1)), tooMuch("twice the longest string", "+", x(full), x(full)),
		{"longest product", "*", x(1), num(int64(full)), x(full), 0}, {"longest product the other way", "*", num(int64(full)), x(1), x(full), 0}, {"longest string once", "*", x(full), num(1), x(full), 0}, {"half twice", "*", num(2), e(full / 4), e(full / 2), 0}, {"odd length", "*", x(3), num(1365), x(4095), 0},
		tooMuch("a byte too often", "*", x(1), num(int64(full)+1)), tooMuch("too often the other way", "*", num(int64(full)+1), x(1)), tooMuch("twice", "*", x(full), num(2)), tooMuch("odd length too often", "*", x(3), num(1366)), tooMuch("more than half twice", "*", num(2), x(full/2+1)),
		{"longest string no times", "*", x(full), num(0), api.Value{}, 0}, {"less than no times", "*", num(math.MinInt64), x(full), api.Value{}, 0},
	})
	// Products that would wrap, or that no memory could hold.
	for _, n := range []int64{math.MaxInt64, 1 << 62, 1 << 52, 1 << 60, 1<<52 + 1, 1 << 32, 1<<32 + 1, 1 << 31, 1 << 30, math.MaxInt64 / 3} {
		for _, size := range []int{1, 2, 3, 4, 16, full - 1, full} {
			expectLimited(t, []limited{tooMuch("a great product", "*", x(size), num(n)), tooMuch("a great product the other way", "*", num(n), x(size))})
		}
	}
}

func TestP6_2LargeArrays(t *testing.T) {
	nothing, long := arr(), str(strings.Repeat("x", api.MaxString))
	full := arr(many(api.Value{}, row-1)...)
	most := []api.Value{full, full, full, arr(many(api.Value{}, row-2)...)}
	deep := nested(num(1), api.MaxDepth-1)
	expectLimited(t, []limited{
		{"longest array", "+", arr(many(num(1), row-1)...), arr(num(1)), arr(many(num(1), row)...), 0}, {"longest array and nothing", "+", arr(many(num(1), row)...), nothing, arr(many(num(1), row)...), 0},
		tooMuch("an element too much", "+", arr(many(num(1), row)...), arr(num(1))), tooMuch("an element too much at the beginning", "+", arr(num(1)), arr(many(num(1), row)...)), tooMuch("two longest arrays", "+", arr(many(num(1), row)...), arr(many(num(1), row)...)),
		{"most nodes", "+", arr(most[:2]...), arr(most[2:]...), arr(most...), 0}, tooMuch("a node too much", "+", arr(full, full), arr(full, full)), tooMuch("a scalar too much", "+", arr(most...), arr(num(1))),
		{"most bytes", "+", arr(many(long, fullCount-1)...), arr(long, str("")), arr(append(many(long, fullCount), str(""))...), 0}, tooMuch("a byte too much", "+", arr(many(long, fullCount)...), arr(str("x"))),
		{"deepest", "+", arr(deep), arr(deep), arr(deep, deep), 0},
		{"difference of longest arrays", "-", arr(many(num(1), row)...), arr(many(num(1), row)...), nothing, 0}, {"no difference", "-", arr(most...), arr(many(num(1), row)...), arr(most...), 0}, {"difference of most nodes", "-", arr(most...), arr(full), arr(most[3]), 0},
		{"difference of deepest", "-", arr(deep, num(1)), arr(nested(num(2), api.MaxDepth-1), deep), arr(num(1)), 0}, {"difference of most bytes", "-", arr(many(long, fullCount)...), arr(long), nothing, 0},
	})
}

// A difference of the longest arrays of different elements in an order that is not that of values.
func TestP6_2LongDifference(t *testing.T) {
	var a, b, want []api.Value
	for i := range int64(row) {
		v := arr(num(i*7%row), str("x"))
		a = append(a, v)
		if i%3 == 0 {
			want = append(want, v)
		} else {
			b = append(b, v)
		}
	}
	slices.Reverse(b)
	expectLimited(t, []limited{{"long difference", "-", arr(a...), arr(b...), arr(want...), 0}, {"long difference of nothing", "-", arr(want...), arr(b...), arr(want...), 0}})
}

// objectLimits hold for sums and for merges, as no two members with one key are objects.
func objectLimits(op string) []limited {
	nothing, half := obj(nil), row/2
	full, less := arr(many(api.Value{}, row-1)...), arr(many(api.Value{}, row-2)...)
	long := str(strings.Repeat("x", api.MaxString))
	letters := strings.Split("abcd", "")
	deep := nested(num(1), api.MaxDepth-1)
	large := numbered(0, fullCount, api.MaxString)
	return []limited{
		{"most members", op, members(0, half, num(1)), members(half, half, num(1)), members(0, row, num(1)), 0}, {"most members in turn", op, members(half, half, num(1)), members(0, half, num(1)), members(0, row, num(1)), 0},
		{"most members and nothing", op, members(0, row, num(1)), nothing, members(0, row, num(1)), 0}, {"all members replaced", op, members(0, row, num(1)), members(0, row, num(2)), members(0, row, num(2)), 0}, {"some members replaced", op, members(0, row, num(1)), members(9, 50, num(1)), members(0, row, num(1)), 0},
		tooMuch("a member too much", op, members(0, row, num(1)), members(row, 1, num(1))), tooMuch("a member too much at the beginning", op, members(0, 1, num(1)), members(1, row, num(1))), tooMuch("a member too much in the middle", op, members(0, half+1, num(1)), members(half, half+1, num(1))),
		{"most nodes", op, obj(letters[:2], full, full), obj(letters[2:], full, less), obj(letters, full, full, full, less), 0}, tooMuch("a node too much", op, obj(letters[:2], full, full), obj(letters[2:], full, full)),
		{"nodes replaced", op, obj(letters, full, full, full, less), obj(letters[:1], less), obj(letters, less, full, full, less), 0}, tooMuch("a node more", op, obj(letters, full, full, full, less), obj(letters[3:], full)),
		{"most bytes", op, obj(letters[:1], arr(many(long, fullCount-1)...)), obj(letters[1:2], str(strings.Repeat("x", api.MaxString-2))), obj(letters[:2], arr(many(long, fullCount-1)...), str(strings.Repeat("x", api.MaxString-2))), 0},
		tooMuch("a byte too much", op, obj(letters[:1], arr(many(long, fullCount-1)...)), obj(letters[1:2], str(strings.Repeat("x", api.MaxString-1)))),
		{"bytes replaced", op, obj(letters[:1], arr(many(long, fullCount-1)...)), obj(letters[:1], long), obj(letters[:1], long), 0},
		{"most bytes in keys", op, obj(large[:9], many(api.Value{}, 9)...), obj(large[3:], many(api.Value{}, fullCount-3)...), obj(large, many(api.Value{}, fullCount)...), 0}, tooMuch("a key too much", op, obj(large, many(api.Value{}, fullCount)...), obj([]string{"x"}, num(1))),
		{"deepest", op, obj(letters[:1], deep), obj(letters[1:2], deep), obj(letters[:2], deep, deep), 0}, {"deepest replaced", op, obj(letters[:1], deep), obj(letters[:1], num(1)), obj(letters[:1], num(1)), 0},
	}
}

func TestP6_2LargeObjects(t *testing.T) {
	expectLimited(t, objectLimits("+"))
	expectLimited(t, objectLimits("*"))
}

func TestP6_4LargeMerges(t *testing.T) {
	l := objectLimits("*")
	for _, level := range []int{1, 2, 30, 31} {
		for _, x := range []limited{
			{"most inner members", "*", members(0, 1000, num(1)), members(24, 1000, num(1)), members(0, row, num(1)), 0},
			{"inner members replaced", "*", members(0, row, num(1)), members(0, row, num(2)), members(0, row, num(2)), 0},
			tooMuch("an inner member too much", "*", members(0, row, num(1)), members(row, 1, num(1))),
			tooMuch("many inner members too much", "*", members(0, row, num(1)), members(row, row, num(1))),
		} {
			x.a, x.b = inside(x.a, level), inside(x.b, level)
			if x.e == api.OK {
				x.want = inside(x.want, level)
			}
			x.name += fmt.Sprint(" at level ", level)
			l = append(l, x)
		}
	}
	full, less := arr(many(api.Value{}, row-1)...), arr(many(api.Value{}, row-3)...)
	pair := func(a, b api.Value) api.Value { return inside(obj([]string{"a", "b"}, a, b), 1) }
	both := func(a, b, c, d api.Value) api.Value { return inside(obj([]string{"a", "b", "c", "d"}, a, b, c, d), 1) }
	other := inside(obj([]string{"c", "d"}, full, less), 1)
	l = append(l, limited{"most nodes in all", "*", pair(full, full), other, both(full, full, full, less), 0}, tooMuch("a node too much in all", "*", pair(full, full), inside(obj([]string{"c", "d"}, full, arr(many(api.Value{}, row-2)...)), 1)))
	l = append(l, tooMuch("too much outside of an inner object", "*", obj(append(numbered(0, row-1, 5), "k"), many(obj(nil), row)...), obj([]string{"k", "l"}, obj([]string{"a"}, num(1)), num(2))))
	expectLimited(t, l)
	for _, x := range l {
		if got, want := outcome(Merge(x.a, x.b)), outcome(x.want, x.e); got != want {
			t.Errorf("Merge: %s is %s; expected %s", x.name, brief(got), brief(want))
		}
	}
}

func TestP6_3LongQuotients(t *testing.T) {
	list := func(s string, n int) api.Value { return arr(many(str(s), n)...) }
	text := func(s string, n int) api.Value { return str(strings.Repeat(s, n)) }
	expectLimited(t, []limited{
		{"most parts", "/", text(",", row-1), str(","), list("", row), 0}, tooMuch("a part too much", "/", text(",", row), str(",")), tooMuch("all parts too much", "/", text(",", api.MaxString), str(",")),
		{"most code points", "/", text("é", row), str(""), list("é", row), 0}, tooMuch("a code point too much", "/", text("é", row+1), str("")), {"most code points of four bytes", "/", text("😀", row), str(""), list("😀", row), 0}, tooMuch("many code points", "/", text("x", api.MaxString), str("")),
		{"longest string", "/", text("x", api.MaxString), str(","), list(strings.Repeat("x", api.MaxString), 1), 0}, {"longest separator", "/", text("x", api.MaxString), text("x", api.MaxString), list("", 2), 0},
		{"longer separator", "/", str("x"), text("x", api.MaxString), list("x", 1), 0}, {"parts of two bytes", "/", text("ab,,", row-1), str(",,"), arr(append(many(str("ab"), row-1), str(""))...), 0},
		tooMuch("a part of no bytes too much", "/", text("ab,,", row), str(",,")),
	})
}

// The kinds of values beyond each other's limits are told apart first.
func TestP6_1TypeBeforeLimit(t *testing.T) {
	for _, a := range []api.Value{str(strings.Repeat("x", api.MaxString)), arr(many(num(1), row)...), members(0, row, num(1)), num(math.MaxInt64)} {
		for _, b := range []api.Value{{Kind: api.True}, {Kind: api.False}} {
			for _, op := range operators()[:5] {
				if first, second := binary(op, a, b), binary(op, b, a); first != wrongType || second != wrongType {
					t.Errorf("%s with true or false: %s, %s", op, brief(first), brief(second))
				}
			}
		}
	}
	if got := binary("*", num(math.MaxInt64), arr(many(num(1), row)...)); got != wrongType {
		t.Error("a number times an array is", brief(got))
	}
}

func TestP6_3LargeComparisons(t *testing.T) {
	deep, other := nested(num(1), api.MaxDepth), nested(num(2), api.MaxDepth)
	long := many(num(7), row)
	less := append(many(num(7), row-1), num(6))
	for _, x := range [][2]api.Value{{deep, other}, {arr(less...), arr(long...)}, {members(0, row, num(1)), members(0, row, num(2))}, {str(strings.Repeat("x", api.MaxString-1)), str(strings.Repeat("x", api.MaxString))}} {
		got := ""
		for _, op := range operators()[5:] {
			got += binary(op, x[0], x[1]) + " " + binary(op, x[1], x[0]) + " " + binary(op, x[0], x[0]) + ","
		}
		if want := "false false true,true true false,true false false,true false true,false true false,false true true,"; got != want {
			t.Errorf("%s: %s; expected %s", brief(jsonwrite.Text(x[0])), got, want)
		}
	}
}
