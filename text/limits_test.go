package text

import (
	"fmt"
	"slices"
	"strings"
	"testing"

	"ndjq/api"
	"ndjq/jsonwrite"
)

const (
	row       = api.MaxElems
	length    = api.MaxString
	fullCount = api.MaxBytes / api.MaxString
)

func num(n int64) api.Value {
	return api.Value{Kind: api.Number, Int: n}
}

func str(s string) api.Value {
	return api.Value{Kind: api.String, Str: s}
}

func arr(l ...api.Value) api.Value {
	return api.Value{Kind: api.Array, Elems: l}
}

func obj(keys []string, l ...api.Value) api.Value {
	return api.Value{Kind: api.Object, Keys: keys, Elems: l}
}

func many(v api.Value, n int) []api.Value {
	return slices.Repeat([]api.Value{v}, n)
}

func repeated(s string, n int) api.Value {
	return str(strings.Repeat(s, n))
}

// nested encloses v in n arrays.
func nested(v api.Value, n int) api.Value {
	for range n {
		v = arr(v)
	}
	return v
}

// numbered returns n ascending keys of at least five bytes.
func numbered(n, size int) []string {
	keys := make([]string, n)
	for i := range keys {
		keys[i] = fmt.Sprintf("%05d", i) + strings.Repeat("x", size-5)
	}
	return keys
}

// upTo returns the array of the numbers below n.
func upTo(n int) api.Value {
	v := arr()
	for i := range n {
		v.Elems = append(v.Elems, num(int64(i)))
	}
	return v
}

// mostNodes returns an array with as many nodes as a value may have.
func mostNodes() api.Value {
	return arr(arr(many(num(1), row-1)...), arr(many(num(1), row-1)...), arr(many(num(1), row-1)...), arr(many(num(1), row-2)...))
}

// mostBytes returns an array with as many bytes in strings as a value may have.
func mostBytes() api.Value {
	return arr(many(repeated("x", length), fullCount)...)
}

// large is a call whose arguments or result are near a limit; s is the second argument of a function that has one.
type large struct {
	name, function string
	v, s           api.Value
	want           api.Value
	e              api.Errno
}

func tooMuch(name, function string, v, s api.Value) large {
	return large{name, function, v, s, api.Value{}, api.ErrLimit}
}

func expectLarge(t *testing.T, l []large) {
	t.Helper()
	for _, x := range l {
		var got string
		if f, ok := unaries()[x.function]; ok {
			got = outcome(f(x.v))
		} else {
			got = outcome(binaries()[x.function](x.v, x.s))
		}
		if want := outcome(x.want, x.e); got != want {
			t.Errorf("%s with %s is %s; expected %s", x.function, x.name, brief(got), brief(want))
		}
	}
}

func TestP8_1Limits(t *testing.T) {
	null := api.Value{}
	expectLarge(t, []large{
		{"most code points", "Explode", repeated("a", row), null, arr(many(num('a'), row)...), 0}, {"most long code points", "Explode", repeated("😀", row), null, arr(many(num('😀'), row)...), 0}, tooMuch("a code point too much", "Explode", repeated("a", row+1), null), tooMuch("the longest string", "Explode", repeated("a", length), null), tooMuch("the longest string of two bytes", "Explode", repeated("é", length/2), null),
		{"most code points", "Implode", arr(many(num('a'), row)...), null, repeated("a", row), 0}, {"most long code points", "Implode", arr(many(num('😀'), row)...), null, repeated("😀", row), 0}, {"most code points and a number", "Implode", arr(append(many(num('a'), row-1), num(-1))...), null, null, api.ErrRange}, {"most code points and a string", "Implode", arr(append(many(num(-1), row-1), str("a"))...), null, null, api.ErrType}, {"most nodes", "Implode", mostNodes(), null, null, api.ErrType},
		{"the longest string", "Lower", repeated("A", length), null, repeated("a", length), 0}, {"the longest string", "Upper", repeated("a", length), null, repeated("A", length), 0}, {"the longest string of two bytes", "Upper", repeated("é", length/2), null, repeated("é", length/2), 0}, {"the longest string", "Trim", repeated("a", length), null, repeated("a", length), 0}, {"the longest blank string", "Trim", repeated("\t", length), null, str(""), 0}, {"many blanks", "Trim", str(strings.Repeat(" ", length/2) + "a" + strings.Repeat("\n", length/2-1)), null, str("a"), 0},
	})
}

func TestP8_2Limits(t *testing.T) {
	long, longer := repeated("é", length/2), str(strings.Repeat("é", length/2-1)+"ab")
	yes, no := api.Value{Kind: api.True}, api.Value{Kind: api.False}
	expectLarge(t, []large{
		{"the longest string", "StartsWith", long, long, yes, 0}, {"a long string", "StartsWith", long, repeated("é", length/2-1), yes, 0}, {"another long string", "StartsWith", longer, long, no, 0}, {"the longest string", "EndsWith", long, long, yes, 0}, {"a long string", "EndsWith", longer, str(longer.Str[2:]), yes, 0}, {"another long string", "EndsWith", longer, long, no, 0},
		{"the longest string", "CutPrefix", long, long, str(""), 0}, {"nothing", "CutPrefix", long, str(""), long, 0}, {"a long string", "CutPrefix", longer, str(longer.Str[:length-2]), str("ab"), 0}, {"the longest string", "CutSuffix", long, long, str(""), 0}, {"nothing", "CutSuffix", long, str(""), long, 0}, {"a long string", "CutSuffix", longer, str(longer.Str[2:]), str("é"), 0}, {"another long string", "CutSuffix", longer, long, longer, 0},
		{"most nodes", "CutPrefix", mostNodes(), str("a"), mostNodes(), 0}, {"most bytes", "CutSuffix", mostBytes(), mostNodes(), mostBytes(), 0}, {"most depth", "CutPrefix", nested(num(1), api.MaxDepth), long, nested(num(1), api.MaxDepth), 0}, {"most members", "CutSuffix", obj(numbered(row, 5), many(num(1), row)...), long, obj(numbered(row, 5), many(num(1), row)...), 0},
	})
}

func TestP8_3Limits(t *testing.T) {
	null, comma, nothing := api.Value{}, str(","), str("")
	half := repeated("x", length/2)
	expectLarge(t, []large{
		{"most code points", "Split", repeated("é", row), nothing, arr(many(str("é"), row)...), 0}, tooMuch("a code point too much", "Split", repeated("é", row+1), nothing), {"most parts", "Split", repeated(",", row-1), comma, arr(many(nothing, row)...), 0}, tooMuch("a part too much", "Split", repeated(",", row), comma), tooMuch("the longest string", "Split", repeated(",", length), comma),
		{"one part", "Split", repeated("x", length), comma, arr(repeated("x", length)), 0}, {"empty parts", "Split", repeated("x", length), repeated("x", length), arr(nothing, nothing), 0}, {"a long separator", "Split", str("x"), repeated("x", length), arr(str("x")), 0},
		{"the longest result", "Join", arr(half, str(half.Str[1:])), comma, str(half.Str + "," + half.Str[1:]), 0}, tooMuch("a byte too much", "Join", arr(half, half), comma), {"two halves", "Join", arr(half, half), nothing, repeated("x", length), 0}, tooMuch("two halves and a byte", "Join", arr(half, half, str("x")), nothing),
		{"the longest element", "Join", arr(repeated("x", length)), repeated("y", length), repeated("x", length), 0}, tooMuch("the longest element and an empty one", "Join", arr(repeated("x", length), nothing), comma), {"the longest element and null", "Join", arr(repeated("x", length), null), nothing, repeated("x", length), 0},
		{"the longest separator", "Join", arr(null, nothing), repeated("é", length/2), repeated("é", length/2), 0}, tooMuch("the longest separator twice", "Join", arr(null, null, null), repeated("é", length/2)), tooMuch("the longest separator and a byte", "Join", arr(null, str("x")), repeated("é", length/2)), tooMuch("the longest separator a thousand times", "Join", arr(many(null, row)...), repeated("x", length)),
		{"most elements", "Join", arr(many(num(123), row)...), comma, str(strings.Repeat("123,", row-1) + "123"), 0}, {"most empty elements", "Join", arr(many(nothing, row)...), str("four"), repeated("four", row-1), 0}, tooMuch("most elements and more", "Join", arr(many(num(1234), row)...), comma), {"most words", "Join", arr(many(api.Value{Kind: api.True}, row)...), nothing, repeated("true", row), 0}, tooMuch("most words and more", "Join", arr(many(api.Value{Kind: api.False}, row)...), nothing),
		tooMuch("most bytes", "Join", mostBytes(), nothing), {"most nodes", "Join", mostNodes(), comma, null, api.ErrType}, {"a wrong type behind most bytes", "Join", arr(append(mostBytes().Elems, arr())...), comma, null, api.ErrType}, {"no elements", "Join", arr(), repeated("x", length), nothing, 0},
	})
}

func TestP8_4Limits(t *testing.T) {
	ones := arr(many(num(1), row)...)
	inner := arr(many(num(1), row-2)...)
	expectLarge(t, []large{
		{"most indexes", "Indices", repeated("a", row), str("a"), upTo(row), 0}, tooMuch("an index too much", "Indices", repeated("a", row+1), str("a")), {"most indexes of two code points", "Indices", repeated("a", row+1), str("aa"), upTo(row), 0}, tooMuch("the longest string", "Indices", repeated("a", length), str("a")), {"most indexes in the longest string", "Indices", repeated("a", length), repeated("a", length-row+1), upTo(row), 0}, tooMuch("an index too much in the longest string", "Indices", repeated("a", length), repeated("a", length-row)),
		{"nothing", "Indices", repeated("é", length/2), str(""), api.Value{}, 0}, {"itself", "Indices", repeated("é", length/2), repeated("é", length/2), arr(num(0)), 0}, {"the last code point", "Indices", str(strings.Repeat("é", length/2-1) + "ab"), str("b"), arr(num(length / 2)), 0}, {"another", "Indices", repeated("é", length/2), repeated("x", length), arr(), 0},
		{"most elements", "Indices", ones, num(1), upTo(row), 0}, {"most elements", "Indices", ones, arr(num(1)), upTo(row), 0}, {"most pairs", "Indices", ones, arr(num(1), num(1)), upTo(row - 1), 0}, {"half of the elements", "Indices", ones, arr(many(num(1), row/2)...), upTo(row/2 + 1), 0}, {"all elements", "Indices", ones, ones, arr(num(0)), 0}, {"no element", "Indices", ones, num(2), arr(), 0},
		{"most nodes", "Indices", mostNodes(), inner, arr(), 0}, {"an array of the last of most nodes", "Indices", mostNodes(), arr(inner), arr(num(3)), 0}, {"an array of the largest elements", "Indices", mostNodes(), arr(arr(many(num(1), row-1)...), inner), arr(num(2)), 0}, {"most bytes", "Indices", mostBytes(), repeated("x", length), upTo(fullCount), 0}, {"most depth", "Indices", nested(num(1), api.MaxDepth), arr(nested(num(1), api.MaxDepth-1)), arr(num(0)), 0},
	})
}

// quotes has a canonical text of twice as many bytes, and two.
func quotes(n int) api.Value {
	return repeated(`"`, n)
}

func TestP8_5LimitsOfTexts(t *testing.T) {
	for _, name := range []string{"ToString", "ToJSON"} {
		null := api.Value{}
		even := arr(many(num(123), row-1)...)
		expectLarge(t, []large{
			{"the longest text", name, arr(append(even.Elems, num(12))...), null, str("[" + strings.Repeat("123,", row-1) + "12]"), 0}, tooMuch("a digit too much", name, arr(append(even.Elems, num(123))...), null), {"the longest string in an array", name, arr(repeated("x", length-4)), null, str(`["` + strings.Repeat("x", length-4) + `"]`), 0}, tooMuch("a letter too much in an array", name, arr(repeated("x", length-3)), null),
			{"the longest key", name, obj([]string{strings.Repeat("x", length-6)}, num(1)), null, str(`{"` + strings.Repeat("x", length-6) + `":1}`), 0}, tooMuch("a letter too much in a key", name, obj([]string{strings.Repeat("x", length-5)}, num(1)), null), {"signs with a backslash", name, arr(quotes(length/2 - 2)), null, str(`["` + strings.Repeat(`\"`, length/2-2) + `"]`), 0}, tooMuch("a sign too much", name, arr(quotes(length/2-1)), null),
			{"most depth", name, nested(num(1), api.MaxDepth), null, str(strings.Repeat("[", api.MaxDepth) + "1" + strings.Repeat("]", api.MaxDepth)), 0}, tooMuch("most nodes", name, mostNodes(), null), tooMuch("most bytes", name, mostBytes(), null),
		})
	}
	expectLarge(t, []large{
		{"the longest string", "ToString", repeated("x", length), api.Value{}, repeated("x", length), 0}, {"the longest string of quotes", "ToString", quotes(length), api.Value{}, quotes(length), 0},
		{"the longest string", "ToJSON", repeated("x", length-2), api.Value{}, str(`"` + strings.Repeat("x", length-2) + `"`), 0}, tooMuch("a letter too much", "ToJSON", repeated("x", length-1), api.Value{}), {"the longest string of quotes", "ToJSON", quotes(length/2 - 1), api.Value{}, str(`"` + strings.Repeat(`\"`, length/2-1) + `"`), 0}, tooMuch("a quote too much", "ToJSON", quotes(length/2), api.Value{}), tooMuch("a letter too much beside quotes", "ToJSON", str(`x`+quotes(length/2-1).Str), api.Value{}),
	})
}

func TestP8_5LimitsOfParsing(t *testing.T) {
	null := api.Value{}
	deep := func(n int) api.Value { return str(strings.Repeat("[", n) + strings.Repeat("]", n)) }
	pairs := str("[" + strings.Repeat("[],", row-1) + "[]]")
	list := func(n int) api.Value { return str("[" + strings.Repeat("1,", n-1) + "1]") }
	// The text of most nodes that fits into a string, and one with a node more.
	nodes := func(n int) api.Value {
		return str("[" + strings.Repeat("["+strings.Repeat("1,", 600)+"1],", 3) + "[" + strings.Repeat("1,", n) + "1]]")
	}
	parsed := func(l ...int) api.Value {
		v := arr()
		for _, n := range l {
			v.Elems = append(v.Elems, arr(many(num(1), n)...))
		}
		return v
	}
	expectLarge(t, []large{
		{"most depth", "FromJSON", deep(api.MaxDepth), null, nested(arr(), api.MaxDepth-1), 0}, {"a bracket too much", "FromJSON", deep(api.MaxDepth + 1), null, null, api.ErrDepth}, {"only brackets", "FromJSON", repeated("[", length), null, null, api.ErrDepth},
		{"most elements", "FromJSON", list(row), null, arr(many(num(1), row)...), 0}, tooMuch("an element too much", "FromJSON", list(row+1), null), {"most arrays", "FromJSON", pairs, null, arr(many(arr(), row)...), 0}, {"many nodes", "FromJSON", nodes(200), null, parsed(601, 601, 601, 201), 0},
		{"the longest string", "FromJSON", str(`"` + strings.Repeat("x", length-2) + `"`), null, repeated("x", length-2), 0}, {"the longest string that is open", "FromJSON", str(`"` + strings.Repeat("x", length-1)), null, null, api.ErrTruncated}, {"the longest blank string", "FromJSON", repeated(" ", length), null, null, api.ErrTruncated}, {"blanks", "FromJSON", str(strings.Repeat(" ", length-1) + "1"), null, num(1), 0},
		{"a long number", "ToNumber", repeated("1", length), null, null, api.ErrNumber}, {"zeros", "ToNumber", repeated("0", length), null, null, api.ErrSyntax}, {"a long word", "ToNumber", repeated("x", length), null, null, api.ErrSyntax}, {"a long string", "ToNumber", str(`"` + strings.Repeat("x", length-2) + `"`), null, null, api.ErrSyntax}, {"an open string", "ToNumber", str(`"` + strings.Repeat("x", length-1)), null, null, api.ErrTruncated}, {"blanks", "ToNumber", str(strings.Repeat(" ", length-1) + "1"), null, null, api.ErrSyntax}, {"blanks behind", "ToNumber", str("1" + strings.Repeat(" ", length-1)), null, null, api.ErrSyntax},
	})
}

// Where the text of a value has at most as many bytes as a string, FromJSON returns the value.
func TestTextsAtTheLimit(t *testing.T) {
	for _, v := range []api.Value{repeated("x", length-2), quotes(length/2 - 1), arr(repeated("é", length/2-2)), obj([]string{strings.Repeat("x", length-6)}, num(1)), nested(repeated("x", length-2-2*api.MaxDepth), api.MaxDepth)} {
		s, e := ToJSON(v)
		if e != api.OK || len(s.Str) != length {
			t.Fatal("ToJSON of", brief(jsonwrite.Text(v)), "has", len(s.Str), "bytes,", e)
		}
		if got := outcome(FromJSON(s)); got != jsonwrite.Text(v) {
			t.Errorf("FromJSON of the text of %s is %s", brief(jsonwrite.Text(v)), brief(got))
		}
	}
}
