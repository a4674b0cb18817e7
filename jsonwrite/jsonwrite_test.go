package jsonwrite

import (
	"bytes"
	"fmt"
	"math"
	"slices"
	"strconv"
	"strings"
	"testing"
	"unicode/utf8"

	"ndjq/api"
)

// The values of the tests are literals, so that they do not lean on package value.
var (
	null  = api.Value{}
	no    = api.Value{Kind: api.False}
	yes   = api.Value{Kind: api.True}
	empty = api.Value{Kind: api.Array}
	bare  = api.Value{Kind: api.Object}
)

func num(n int64) api.Value {
	return api.Value{Kind: api.Number, Int: n}
}

func str(s string) api.Value {
	return api.Value{Kind: api.String, Str: s}
}

func arr(l ...api.Value) api.Value {
	return api.Value{Kind: api.Array, Elems: l}
}

func obj(keys []string, l ...api.Value) api.Value {
	return api.Value{Kind: api.Object, Keys: keys, Elems: l}
}

func repeat(v api.Value, n int) []api.Value {
	return slices.Repeat([]api.Value{v}, n)
}

// identical compares all fields. A nil slice and an empty one are equivalent.
func identical(a, b api.Value) bool {
	if a.Kind != b.Kind || a.Int != b.Int || a.Str != b.Str {
		return false
	}
	return slices.Equal(a.Keys, b.Keys) && slices.EqualFunc(a.Elems, b.Elems, identical)
}

// brief shows both ends of a text.
func brief(s string) string {
	if len(s) > 80 {
		s = s[:40] + " .. " + s[len(s)-40:]
	}
	return strconv.Quote(s)
}

// expectText expects the text s of v, and for an empty s what the chapter says of a value that is not valid.
func expectText(t *testing.T, name string, v api.Value, s string) {
	t.Helper()
	if got := Text(v); got != s {
		t.Errorf("Text of %s is %s; expected %s", name, brief(got), brief(s))
	}
	if got := Size(v); got != len(s) {
		t.Errorf("Size of %s is %d; expected %d", name, got, len(s))
	}
	for _, before := range [][]byte{nil, {}, []byte("x"), []byte("[1,\x00\xff\""), make([]byte, 3, 1000)} {
		if got, want := string(Append(before, v)), string(before)+s; got != want {
			t.Errorf("Append of %s to %q is %s; expected %s", name, before, brief(got), brief(want))
		}
	}
}

type written struct {
	v api.Value
	s string
}

func atoms() []written {
	return []written{
		{null, "null"}, {no, "false"}, {yes, "true"}, {empty, "[]"}, {bare, "{}"}, {str(""), `""`},
		{num(0), "0"}, {num(1), "1"}, {num(-1), "-1"}, {num(9), "9"}, {num(10), "10"}, {num(-10), "-10"}, {num(99), "99"}, {num(100), "100"}, {num(-12345), "-12345"},
		{num(1000000), "1000000"}, {num(1 << 53), "9007199254740992"}, {num(1<<53 + 1), "9007199254740993"}, {num(math.MaxInt32 + 1), "2147483648"}, {num(math.MinInt32), "-2147483648"},
		{num(math.MaxInt64), "9223372036854775807"}, {num(math.MinInt64), "-9223372036854775808"}, {num(math.MaxInt64 - 1), "9223372036854775806"}, {num(-math.MaxInt64), "-9223372036854775807"},
		{str("a"), `"a"`}, {str("null"), `"null"`}, {str("[1, 2]"), `"[1, 2]"`}, {str(" \t"), `" \t"`}, {str(`"`), `"\""`}, {str(`\`), `"\\"`}, {str(`\\"`), `"\\\\\""`}, {str("/"), `"/"`},
		{str("\b\t\n\f\r"), `"\b\t\n\f\r"`}, {str("\x00\x01\x07\x0b\x0e\x0f\x10\x1f "), `"\u0000\u0001\u0007\u000b\u000e\u000f\u0010\u001f "`}, {str("\x7f"), "\"\x7f\""}, {str("<&>'"), `"<&>'"`},
		{str("é€😀"), `"é€😀"`}, {str("\u0080\u0085\u00a0"), "\"\u0080\u0085\u00a0\""}, {str("\u2028\u2029\ufeff\ufffd\uffff\U0010ffff"), "\"\u2028\u2029\ufeff\ufffd\uffff\U0010ffff\""},
		{str(`\u0041`), `"\\u0041"`}, {str("a\nb\\n\"c\""), `"a\nb\\n\"c\""`},
	}
}

func TestP5_1Atoms(t *testing.T) {
	for _, x := range atoms() {
		expectText(t, x.s, x.v, x.s)
		expectText(t, x.s+" in an array", arr(x.v, null, x.v), "["+x.s+",null,"+x.s+"]")
		expectText(t, x.s+" in an object", obj([]string{"", "k"}, x.v, x.v), `{"":`+x.s+`,"k":`+x.s+"}")
		expectText(t, x.s+" in both", arr(obj([]string{"k"}, arr(x.v)), x.v), `[{"k":[`+x.s+`]},`+x.s+"]")
	}
}

func TestP5_1Nested(t *testing.T) {
	for _, x := range []written{
		{arr(null), "[null]"}, {arr(empty), "[[]]"}, {arr(bare), "[{}]"}, {arr(empty, empty, bare), "[[],[],{}]"}, {arr(num(1), arr(num(2), arr(num(3)), num(4)), num(5)), "[1,[2,[3],4],5]"},
		{obj([]string{"a"}, null), `{"a":null}`}, {obj([]string{"a"}, obj([]string{"a"}, bare)), `{"a":{"a":{}}}`}, {obj([]string{"a", "b"}, empty, bare), `{"a":[],"b":{}}`},
		{obj([]string{"", "B", "a", "aa", "é", "\uffff", "\U00010000"}, num(1), num(2), num(3), num(4), num(5), num(6), num(7)), "{\"\":1,\"B\":2,\"a\":3,\"aa\":4,\"é\":5,\"\uffff\":6,\"\U00010000\":7}"},
		{obj([]string{"\x00", "\n", "\x1f", " ", `"`, `\`}, repeat(no, 6)...), `{"\u0000":false,"\n":false,"\u001f":false," ":false,"\"":false,"\\":false}`},
		{arr(str("a,b"), str("],["), str("1")), `["a,b","],[","1"]`}, {obj([]string{`a":1,"b`}, num(2)), `{"a\":1,\"b":2}`},
	} {
		expectText(t, x.s, x.v, x.s)
	}
}

func TestP5_1Examples(t *testing.T) {
	expectText(t, "the first example", obj([]string{"a"}, arr(num(1), num(-2), null)), `{"a":[1,-2,null]}`)
	expectQuote(t, "\n\x01é", `"\n\u0001é"`)
}

// Slices that are empty but not nil, and spare capacity, change nothing.
func TestP5_1EmptySlices(t *testing.T) {
	names := []string{"null", "false", "true", "0", `""`, "[]", "{}"}
	for kind, name := range names {
		expectText(t, name, api.Value{Kind: kind, Keys: []string{}, Elems: []api.Value{}}, name)
		expectText(t, name, api.Value{Kind: kind, Keys: make([]string, 0, 3), Elems: make([]api.Value, 0, 3)}, name)
	}
	expectText(t, "spare capacity", arr(append(make([]api.Value, 0, 9), num(1))...), "[1]")
}

func expectQuote(t *testing.T, s, want string) {
	t.Helper()
	if got := Quote(s); got != want {
		t.Errorf("Quote of %s is %s; expected %s", brief(s), brief(got), brief(want))
	}
}

// quoted is a second statement of the chapter: a list of what is not written as it is.
func quoted(s string) string {
	pairs := []string{`"`, `\"`, `\`, `\\`}
	for code := range 0x20 {
		pairs = append(pairs, string(rune(code)), fmt.Sprintf(`\u%04x`, code))
	}
	for i, code := range []int{8, 9, 10, 12, 13} {
		pairs[4+2*code+1] = `\` + "btnfr"[i:i+1]
	}
	return `"` + strings.NewReplacer(pairs...).Replace(s) + `"`
}

func TestP5_1CodePoints(t *testing.T) {
	for r := range rune(0x20) {
		expectQuote(t, string(r), quoted(string(r)))
	}
	for r := rune(0x20); r <= utf8.MaxRune; r++ {
		if !utf8.ValidRune(r) {
			continue
		}
		s, want := string(r), `"`+string(r)+`"`
		if r == '"' || r == '\\' {
			want = `"\` + s + `"`
		}
		if Quote(s) != want || Text(str(s)) != want || Size(str(s)) != len(want) {
			t.Fatalf("%U: %q %q %d", r, Quote(s), Text(str(s)), Size(str(s)))
		}
	}
}

func TestP5_1ControlsInValues(t *testing.T) {
	for r := range rune(0x100) {
		s := "a" + string(r) + "1" + string(r)
		expectText(t, "a string", str(s), quoted(s))
		expectText(t, "a key", obj([]string{s}, str(s)), "{"+quoted(s)+":"+quoted(s)+"}")
	}
}

// Bytes that are not valid UTF-8 are written as they are, and what stands beside them as always.
func TestP5_1QuoteBytes(t *testing.T) {
	for i := range 256 {
		for j := range 256 {
			s := string([]byte{byte(i), byte(j)})
			expectQuote(t, s, quoted(s))
		}
		for _, x := range []struct{ before, want string }{{"\xc3", "\xc3"}, {"\xe2\x82", "\xe2\x82"}, {"\xf0\x9f\x98", "\xf0\x9f\x98"}, {"\xed\xa0\x80", "\xed\xa0\x80"}, {"\xc0", "\xc0"}, {"\\", `\\`}} {
			own := quoted(string([]byte{byte(i)}))
			expectQuote(t, x.before+string([]byte{byte(i)}), `"`+x.want+own[1:])
			expectQuote(t, string([]byte{byte(i)})+x.before, own[:len(own)-1]+x.want+`"`)
		}
	}
	for _, s := range []string{"\xff", "\xc0\x80", "\xed\xa0\x80", "\xf4\x90\x80\x80", "\xe2\x82", "a\x80b"} {
		expectQuote(t, s, `"`+s+`"`)
	}
	expectQuote(t, "\xff\"\xfe\\\xfd\n\xc3\x01\x80", "\"\xff\\\"\xfe\\\\\xfd\\n\xc3\\u0001\x80\"")
}

func TestP5_1QuoteLong(t *testing.T) {
	for _, n := range []int{0, 1, api.MaxString - 1, api.MaxString, api.MaxString + 1, api.MaxBytes + 1, api.MaxOutput + 1, 3 << 20} {
		expectQuote(t, strings.Repeat("x", n), `"`+strings.Repeat("x", n)+`"`)
		expectQuote(t, strings.Repeat("\xff", n), `"`+strings.Repeat("\xff", n)+`"`)
		expectQuote(t, strings.Repeat("\x1f", n), `"`+strings.Repeat(`\u001f`, n)+`"`)
	}
}

// spoil overwrites a slice with its spare capacity.
func spoil(b []byte) {
	b = b[:cap(b)]
	for i := range b {
		b[i] = '#'
	}
}

func TestAppendReturnsNewMemory(t *testing.T) {
	for _, v := range []api.Value{null, arr(str("long enough to be moved when it grows"), num(1)), {Kind: 9}, str("\xff")} {
		s := Text(v)
		whole := []byte("0123456789" + strings.Repeat("-", 100))
		for _, n := range []int{0, 1, 10, len(whole)} {
			want := bytes.Clone(whole)
			first, second := Append(whole[:n], v), Append(whole[:n], v)
			spoil(first)
			if !bytes.Equal(whole, want) {
				t.Errorf("Append of %s changes its argument or shares memory with it: %q", brief(s), whole)
			}
			if got := string(second); got != string(want[:n])+s {
				t.Errorf("two results of Append of %s share memory: %q", brief(s), got)
			}
			third := Append(whole[:n], v)
			spoil(whole)
			if got := string(third); got != string(want[:n])+s {
				t.Errorf("Append of %s keeps its argument: %q", brief(s), got)
			}
			copy(whole, want)
		}
	}
}

func TestValuesAreNotChangedOrKept(t *testing.T) {
	build := func() api.Value {
		elems := append(make([]api.Value, 0, 9), num(1), obj([]string{"a\n", "b"}, str("\x01é"), empty))
		spare := elems[:cap(elems)]
		for i := len(elems); i < len(spare); i++ {
			spare[i] = num(77)
		}
		return arr(elems...)
	}
	v := build()
	first := Append(nil, v)
	if Text(v) != string(first) || Size(v) != len(first) {
		t.Error("Text, Append and Size differ", Text(v), string(first), Size(v))
	}
	if spare := v.Elems[:cap(v.Elems)]; !identical(arr(spare...), arr(build().Elems[:cap(spare)]...)) {
		t.Error("an argument is changed")
	}
	v.Elems[0], v.Elems[1].Keys[0] = null, "z"
	if want := `[1,{"a\n":"\u0001é","b":[]}]`; string(first) != want {
		t.Errorf("a result follows its argument: %q", first)
	}
}
