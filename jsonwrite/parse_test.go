package jsonwrite

import (
	"bytes"
	"encoding/json"
	"math"
	"math/rand"
	"slices"
	"strconv"
	"strings"
	"testing"

	"ndjq/api"
	"ndjq/jsonparse"
	"ndjq/value"
)

// expectBack expects that jsonparse reads the text of v as v.
func expectBack(t *testing.T, v api.Value) {
	t.Helper()
	s := Text(v)
	if got, at, e := jsonparse.Parse(s); e != api.OK || at != len(s) || !identical(got, v) {
		t.Errorf("Parse(%s) ends at %d with error %d", brief(s), at, e)
	}
}

func TestParseOfText(t *testing.T) {
	for _, x := range atoms() {
		expectBack(t, x.v)
		expectBack(t, arr(x.v, obj([]string{"a", "b"}, x.v, arr(x.v)), x.v))
	}
	for _, x := range largest() {
		expectBack(t, x.v)
	}
	for r := range rune(0x3000) {
		s := string(r) + "\\" + string(r)
		expectBack(t, obj([]string{s}, str(s)))
	}
}

// twins are different values whose texts would be equal if something were not escaped or not enclosed.
func twins() []api.Value {
	return []api.Value{
		null, no, yes, num(1), num(-1), num(11), num(12), str("null"), str("false"), str("true"), str("1"), str("-1"), str(""), str("[]"), str("{}"), empty, bare,
		str(`"`), str(`\"`), str(`\\"`), str("\n"), str(`\n`), str(`\u000a`), str("\x01"), str(`\u0001`), str("\x10"), str(`\u0010`), str("a"), str(`a"`), str("/"), str(`\/`), str("\x7f"), str("\u0080"), str("e\u0301"), str("é"),
		arr(num(1), num(2)), arr(num(12)), arr(str("1,2")), arr(str("1"), str("2")), arr(str(`1","2`)), arr(num(1), str("2")), arr(num(1), num(-2)), arr(num(1)), arr(arr(num(1))), arr(arr(num(1)), num(2)), arr(arr(num(1), num(2))), arr(num(1), arr(num(2))),
		arr(empty), arr(bare), arr(empty, empty), arr(arr(empty)), arr(null), arr(null, null), arr(str("")), obj([]string{""}, null), obj([]string{""}, str("")), obj([]string{"a"}, num(1)), obj([]string{"a"}, str("1")), obj([]string{`a":1,"b`}, num(2)), obj([]string{"a", "b"}, num(1), num(2)),
		obj([]string{"a"}, obj([]string{"b"}, num(2))), obj([]string{"a", "b"}, bare, num(2)), obj([]string{"a", "b"}, num(2), num(1)), arr(str("a"), num(1)), arr(obj([]string{"a"}, num(1)), obj([]string{"b"}, num(2))), obj([]string{`a`}, str(`1,"b":2`)), obj([]string{"A"}, num(1)),
	}
}

// Two valid values are equal exactly if their texts are.
func expectAgreement(t *testing.T, a, b api.Value) {
	t.Helper()
	if equal := value.Equal(a, b); equal != (Text(a) == Text(b)) {
		t.Errorf("%s and %s: equal %v", brief(Text(a)), brief(Text(b)), equal)
	}
}

func TestEqualTexts(t *testing.T) {
	l, others := twins(), twins()
	for i, a := range l {
		for j, b := range others {
			expectAgreement(t, a, b)
			expectAgreement(t, arr(a, b), arr(b, a))
			if (Text(a) == Text(b)) != (i == j) {
				t.Error("two values have one text", i, j, Text(a))
			}
		}
	}
}

// smallValues returns different values: atoms, and the arrays and objects of at most two of the values of the level below.
func smallValues(level int) []api.Value {
	l := []api.Value{null, yes, num(1), num(11), str(""), str("1"), str(`"`), str(`,`), empty, bare}
	if level == 0 {
		return l[2:7]
	}
	below := smallValues(level - 1)
	for _, a := range below {
		l = append(l, arr(a), obj([]string{""}, a), obj([]string{`"`}, a))
		for _, b := range below {
			l = append(l, arr(a, b), obj([]string{"", `"`}, a, b))
		}
	}
	return l
}

func TestSmallValuesHaveDifferentTexts(t *testing.T) {
	seen := map[string]int{}
	for i, v := range smallValues(2) {
		s := Text(v)
		if before, ok := seen[s]; ok {
			t.Fatal("the values", before, i, "have one text", s)
		}
		seen[s] = i
		expectBack(t, v)
	}
}

// randomString mixes what is escaped, what is not, and code points of all lengths.
func randomString(r *rand.Rand) string {
	var b strings.Builder
	for range r.Intn(6) {
		switch r.Intn(4) {
		case 0:
			b.WriteByte(byte(r.Intn(0x30)))
		case 1:
			b.WriteByte(byte(r.Intn(0x80)))
		case 2:
			b.WriteString([]string{`\`, `"`, "/", "é", "€", "😀", "\x7f", "\u0080", "\uffff", "\u2027", "\U0010ffff"}[r.Intn(11)])
		default:
			b.WriteString([]string{"\b", "\t", "\n", "\f", "\r", "\x00", "\x1f", "u0041", "n"}[r.Intn(9)])
		}
	}
	return b.String()
}

func randomNumber(r *rand.Rand) int64 {
	n := int64(r.Uint64()) >> r.Intn(64)
	return []int64{n, n, n, math.MinInt64, math.MaxInt64, 0}[r.Intn(6)]
}

// randomValue returns a value that is nested at most depth deep.
func randomValue(r *rand.Rand, depth int) api.Value {
	kind := r.Intn(api.Object + 1)
	if depth == 0 {
		kind = r.Intn(api.Array)
	}
	v := api.Value{Kind: kind}
	switch kind {
	case api.Number:
		v.Int = randomNumber(r)
	case api.String:
		v.Str = randomString(r)
	case api.Object:
		for range r.Intn(5) {
			v.Keys = append(v.Keys, randomString(r))
		}
		slices.Sort(v.Keys)
		v.Keys = slices.Compact(v.Keys)
		for range v.Keys {
			v.Elems = append(v.Elems, randomValue(r, depth-1))
		}
	case api.Array:
		for range r.Intn(5) {
			v.Elems = append(v.Elems, randomValue(r, depth-1))
		}
	}
	return v
}

// stated is a second statement of the chapter.
func stated(v api.Value) string {
	var l []string
	for i, elem := range v.Elems {
		s := stated(elem)
		if v.Kind == api.Object {
			s = quoted(v.Keys[i]) + ":" + s
		}
		l = append(l, s)
	}
	inner := strings.Join(l, ",")
	return []string{"null", "false", "true", strconv.FormatInt(v.Int, 10), quoted(v.Str), "[" + inner + "]", "{" + inner + "}"}[v.Kind]
}

// marshalled is the text of v according to the standard library, which sorts keys bytewise and escapes the same code points, but for U+2028 and U+2029.
func marshalled(t *testing.T, v api.Value) string {
	t.Helper()
	var b bytes.Buffer
	encoder := json.NewEncoder(&b)
	encoder.SetEscapeHTML(false)
	if err := encoder.Encode(plain(v)); err != nil {
		t.Fatal(err)
	}
	return strings.TrimSuffix(b.String(), "\n")
}

func plain(v api.Value) any {
	switch v.Kind {
	case api.False, api.True:
		return v.Kind == api.True
	case api.Number:
		return v.Int
	case api.String:
		return v.Str
	case api.Array:
		l := []any{}
		for _, elem := range v.Elems {
			l = append(l, plain(elem))
		}
		return l
	case api.Object:
		m := map[string]any{}
		for i, key := range v.Keys {
			m[key] = plain(v.Elems[i])
		}
		return m
	}
	return nil
}

func TestP5_1RandomValues(t *testing.T) {
	r := rand.New(rand.NewSource(5))
	last := null
	for range 20000 {
		v := randomValue(r, 4)
		expectText(t, "a random value", v, stated(v))
		expectText(t, "a random value", v, marshalled(t, v))
		expectBack(t, v)
		expectAgreement(t, v, last)
		last = v
	}
}

// FuzzQuote and FuzzText run on their seeds with go test, and go on from them with go test -fuzz.
func FuzzQuote(f *testing.F) {
	for _, s := range []string{"", "a", "\n\x01é", "\"\\/", "\xff\xc0\x80\x1f", "\u2028", "\\u0041"} {
		f.Add(s)
	}
	f.Fuzz(func(t *testing.T, s string) {
		expectQuote(t, s, quoted(s))
	})
}

func FuzzText(f *testing.F) {
	for _, s := range []string{"null", " [1, -2, {\"b\": \"\\u0001\\u00e9\", \"a\": {}}]", "{\"b\":1,\"a\":2,\"b\":3}", "\"\\/\\ud83d\\ude00\"", "-0"} {
		f.Add(s)
	}
	f.Fuzz(func(t *testing.T, s string) {
		v, _, e := jsonparse.Parse(s)
		if e != api.OK {
			return
		}
		expectText(t, brief(s), v, stated(v))
		expectBack(t, v)
	})
}
