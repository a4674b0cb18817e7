package text

import (
	"math/big"
	"math/rand"
	"regexp"
	"strings"
	"testing"
	"unicode/utf8"

	"ndjq/api"
	"ndjq/jsonlex"
	"ndjq/jsonparse"
	"ndjq/jsonwrite"
	"ndjq/value"
)

// The functions with the prefix stated are a second statement of the chapter for valid values. They return a value that may be beyond a limit.

func statedExplode(v api.Value) (api.Value, api.Errno) {
	if v.Kind != api.String {
		return api.Value{}, api.ErrType
	}
	l := arr()
	for _, r := range v.Str {
		l.Elems = append(l.Elems, num(int64(r)))
	}
	return l, api.OK
}

func statedImplode(v api.Value) (api.Value, api.Errno) {
	if v.Kind != api.Array {
		return api.Value{}, api.ErrType
	}
	s, e := "", api.OK
	for _, elem := range v.Elems {
		if elem.Kind != api.Number {
			return api.Value{}, api.ErrType
		}
		if elem.Int < 0 || elem.Int > utf8.MaxRune || !utf8.ValidRune(rune(elem.Int)) {
			e = api.ErrRange
		}
		s += string(rune(elem.Int))
	}
	return str(s), e
}

const (
	capital = "ABCDEFGHIJKLMNOPQRSTUVWXYZ"
	small   = "abcdefghijklmnopqrstuvwxyz"
)

// exchange replaces the letters of one alphabet by those of another one.
func exchange(v api.Value, from, to string) (api.Value, api.Errno) {
	if v.Kind != api.String {
		return api.Value{}, api.ErrType
	}
	b := []byte(v.Str)
	for i, c := range b {
		if at := strings.IndexByte(from, c); at >= 0 {
			b[i] = to[at]
		}
	}
	return str(string(b)), api.OK
}

func statedTrim(v api.Value) (api.Value, api.Errno) {
	if v.Kind != api.String {
		return api.Value{}, api.ErrType
	}
	return str(regexp.MustCompile(`^[ \t\n\r]+|[ \t\n\r]+$`).ReplaceAllString(v.Str, "")), api.OK
}

// pair returns the code points of two strings.
func pair(v, s api.Value) ([]rune, []rune, bool) {
	return []rune(v.Str), []rune(s.Str), v.Kind == api.String && s.Kind == api.String
}

func statedStartsWith(v, s api.Value) (api.Value, api.Errno) {
	a, b, ok := pair(v, s)
	if !ok {
		return api.Value{}, api.ErrType
	}
	return value.Bool(len(b) <= len(a) && string(a[:len(b)]) == s.Str), api.OK
}

func statedEndsWith(v, s api.Value) (api.Value, api.Errno) {
	a, b, ok := pair(v, s)
	if !ok {
		return api.Value{}, api.ErrType
	}
	return value.Bool(len(b) <= len(a) && string(a[len(a)-len(b):]) == s.Str), api.OK
}

func statedCutPrefix(v, s api.Value) (api.Value, api.Errno) {
	if is, e := statedStartsWith(v, s); e == api.OK && is.Kind == api.True {
		return str(v.Str[len(s.Str):]), api.OK
	}
	return v, api.OK
}

func statedCutSuffix(v, s api.Value) (api.Value, api.Errno) {
	if is, e := statedEndsWith(v, s); e == api.OK && is.Kind == api.True {
		return str(v.Str[:len(v.Str)-len(s.Str)]), api.OK
	}
	return v, api.OK
}

// statedSplit goes over the code points from the left.
func statedSplit(v, s api.Value) (api.Value, api.Errno) {
	a, b, ok := pair(v, s)
	if !ok {
		return api.Value{}, api.ErrType
	}
	l := arr()
	if len(b) == 0 || len(a) == 0 {
		for _, r := range a {
			l.Elems = append(l.Elems, str(string(r)))
		}
		return l, api.OK
	}
	part := ""
	for len(a) > 0 {
		if len(b) <= len(a) && string(a[:len(b)]) == s.Str {
			l.Elems, part, a = append(l.Elems, str(part)), "", a[len(b):]
			continue
		}
		part, a = part+string(a[0]), a[1:]
	}
	l.Elems = append(l.Elems, str(part))
	return l, api.OK
}

func statedJoin(v, s api.Value) (api.Value, api.Errno) {
	if v.Kind != api.Array || s.Kind != api.String {
		return api.Value{}, api.ErrType
	}
	whole := ""
	for i, elem := range v.Elems {
		if i > 0 {
			whole += s.Str
		}
		switch value.TypeName(elem) {
		case "string":
			whole += elem.Str
		case "number", "boolean":
			whole += jsonwrite.Text(elem)
		case "array", "object":
			return api.Value{}, api.ErrType
		}
	}
	return str(whole), api.OK
}

// sequence returns the elements of an array or the code points of a string.
func sequence(v api.Value) api.Value {
	if v.Kind == api.String {
		v, _ = statedExplode(v)
	}
	return v
}

func statedIndices(v, s api.Value) (api.Value, api.Errno) {
	_, _, ok := pair(v, s)
	if !ok && v.Kind != api.Array {
		return api.Value{}, api.ErrType
	}
	if v.Kind == api.Array && s.Kind != api.Array {
		s = arr(s)
	}
	whole, part := sequence(v).Elems, sequence(s).Elems
	if len(part) == 0 {
		return api.Value{}, api.OK
	}
	l := arr()
	for i := range whole {
		matches := 0
		for j := range part {
			if i+j < len(whole) && value.Compare(whole[i+j], part[j]) == 0 {
				matches++
			}
		}
		if matches == len(part) {
			l.Elems = append(l.Elems, num(int64(i)))
		}
	}
	return l, api.OK
}

func statedToString(v api.Value) (api.Value, api.Errno) {
	if v.Kind == api.String {
		return v, api.OK
	}
	return statedToJSON(v)
}

func statedToJSON(v api.Value) (api.Value, api.Errno) {
	return str(jsonwrite.Text(v)), api.OK
}

func statedToNumber(v api.Value) (api.Value, api.Errno) {
	switch v.Kind {
	case api.Number:
		return v, api.OK
	case api.String:
	default:
		return api.Value{}, api.ErrType
	}
	if regexp.MustCompile(`^(0|-?[1-9][0-9]*|-0)$`).MatchString(v.Str) {
		n, _ := new(big.Int).SetString(v.Str, 10)
		if !n.IsInt64() {
			return api.Value{}, api.ErrNumber
		}
		return num(n.Int64()), api.OK
	}
	if _, _, e := jsonlex.Next(v.Str, 0); e != api.OK {
		return api.Value{}, e
	}
	return api.Value{}, api.ErrSyntax
}

func statedFromJSON(v api.Value) (api.Value, api.Errno) {
	if v.Kind != api.String {
		return api.Value{}, api.ErrType
	}
	w, _, e := jsonparse.Parse(v.Str)
	return w, e
}

func statedUnaries() map[string]unary {
	return map[string]unary{
		"Explode": statedExplode, "Implode": statedImplode, "Trim": statedTrim,
		"Lower":    func(v api.Value) (api.Value, api.Errno) { return exchange(v, capital, small) },
		"Upper":    func(v api.Value) (api.Value, api.Errno) { return exchange(v, small, capital) },
		"ToString": statedToString, "ToNumber": statedToNumber, "ToJSON": statedToJSON, "FromJSON": statedFromJSON,
	}
}

func statedBinaries() map[string]binary {
	return map[string]binary{
		"StartsWith": statedStartsWith, "EndsWith": statedEndsWith, "CutPrefix": statedCutPrefix, "CutSuffix": statedCutSuffix,
		"Split": statedSplit, "Join": statedJoin, "Indices": statedIndices,
	}
}

// within returns the outcome of a stated function, where a value beyond a limit is an error.
func within(v api.Value, e api.Errno) string {
	switch {
	case e != api.OK:
		return errorName(e)
	case !value.Valid(v):
		return limit
	}
	return outcome(v, e)
}

func expectStated(t *testing.T, v api.Value) {
	t.Helper()
	stated := statedUnaries()
	for name, f := range unaries() {
		if got, want := outcome(f(v)), within(stated[name](v)); got != want {
			t.Errorf("%s of %s is %s; expected %s", name, brief(jsonwrite.Text(v)), brief(got), brief(want))
		}
	}
}

func expectStatedPairs(t *testing.T, v, s api.Value) {
	t.Helper()
	stated := statedBinaries()
	for name, f := range binaries() {
		if got, want := outcome(f(v, s)), within(stated[name](v, s)); got != want {
			t.Errorf("%s of %s and %s is %s; expected %s", name, brief(jsonwrite.Text(v)), brief(jsonwrite.Text(s)), brief(got), brief(want))
		}
	}
}

// expectConsequences holds v and s against the consequences that the chapter names.
func expectConsequences(t *testing.T, v, s api.Value) {
	t.Helper()
	text := jsonwrite.Text(v)
	if l, e := Explode(v); e == api.OK {
		if got := outcome(Implode(l)); got != text {
			t.Errorf("Implode of Explode of %s is %s", brief(text), brief(got))
		}
	}
	if l, e := Split(v, s); e == api.OK && v.Str != "" && s.Str != "" {
		if got := outcome(Join(l, s)); got != text {
			t.Errorf("Join of Split of %s by %s is %s", brief(text), brief(jsonwrite.Text(s)), brief(got))
		}
	}
	w, e := ToJSON(v)
	if long := jsonwrite.Size(v) > api.MaxString; long != (e == api.ErrLimit) {
		t.Errorf("ToJSON of %s has the error %d", brief(text), e)
	}
	if e == api.OK {
		if got := outcome(FromJSON(w)); got != text {
			t.Errorf("FromJSON of ToJSON of %s is %s", brief(text), brief(got))
		}
	}
}

// words returns all strings of at most n of the letters.
func words(letters []string, n int) []string {
	l, from := []string{""}, 0
	for range n {
		to := len(l)
		for _, s := range l[from:to] {
			for _, letter := range letters {
				l = append(l, s+letter)
			}
		}
		from = to
	}
	return l
}

func TestShortStringsAsStated(t *testing.T) {
	for _, letters := range [][]string{{"a", "b"}, {"a", "é", "è"}, {"€", "ࢀ", " "}} {
		parts := words(letters, 3)
		for _, s := range words(letters, 5) {
			for _, part := range parts {
				expectStatedPairs(t, str(s), str(part))
				expectConsequences(t, str(s), str(part))
			}
		}
	}
}

// The signs of numbers, of other tokens and of blanks.
func TestShortTextsAsStated(t *testing.T) {
	for _, letters := range [][]string{{"-", "0", "1", "9", ".", "e", " ", "+"}, {"[", "]", "{", "}", ",", ":", `"`, `\`, "0"}, {"A", "z", "\n", "é", "\x00", "\t", "\r"}} {
		for _, s := range words(letters, 4) {
			expectStated(t, str(s))
		}
	}
}

// lists returns all arrays of at most n of the elements.
func lists(elems []api.Value, n int) []api.Value {
	l, from := []api.Value{arr()}, 0
	for range n {
		to := len(l)
		for _, v := range l[from:to] {
			for _, elem := range elems {
				l = append(l, arr(append(v.Elems[:len(v.Elems):len(v.Elems)], elem)...))
			}
		}
		from = to
	}
	return l
}

func TestShortArraysAsStated(t *testing.T) {
	for _, elems := range [][]api.Value{{num(97), num(98)}, {num(233), str("a"), {}}, {num(-1), arr(num(97)), {Kind: api.True}}, {str("1"), num(1), obj([]string{"a"}, num(1))}, {num(0x10FFFF), num(0x110000), num(0xD800)}} {
		parts := append(lists(elems, 2), elems...)
		parts = append(parts, str(""), str(","), api.Value{}, api.Value{Kind: api.False})
		for _, v := range lists(elems, 5) {
			expectStated(t, v)
			if len(v.Elems) > 4 {
				continue
			}
			for _, s := range parts {
				expectStatedPairs(t, v, s)
				expectConsequences(t, v, s)
			}
		}
	}
}

func randomString(r *rand.Rand) string {
	s := ""
	for range r.Intn(6) {
		s += []string{"a", "B", "é", "€", "😀", " ", "\n", "1", "-", `"`, ","}[r.Intn(11)]
	}
	return s
}

// randomValue returns a value that is nested at most depth deep.
func randomValue(r *rand.Rand, depth int) api.Value {
	kind := r.Intn(api.Object + 1)
	if depth > 0 && r.Intn(3) == 0 {
		kind = api.Array
	}
	v := api.Value{Kind: kind}
	switch {
	case kind == api.Number:
		v.Int = int64(r.Intn(7)) - 3
	case kind == api.String:
		v.Str = randomString(r)
	case kind == api.Object:
		for i := range 4 {
			if depth > 0 && r.Intn(2) == 0 {
				v.Keys, v.Elems = append(v.Keys, "abcd"[i:i+1]), append(v.Elems, randomValue(r, depth-1))
			}
		}
	case kind == api.Array && depth > 0:
		for range r.Intn(6) {
			v.Elems = append(v.Elems, randomValue(r, depth-1))
		}
	}
	return v
}

func TestRandomValuesAsStated(t *testing.T) {
	r := rand.New(rand.NewSource(8))
	for range 20000 {
		v, s := randomValue(r, 3), randomValue(r, 2)
		if len(v.Elems) > 0 && r.Intn(2) == 0 {
			from := r.Intn(len(v.Elems))
			s = v.Elems[from]
			if r.Intn(2) == 0 {
				s = arr(v.Elems[from : from+1+r.Intn(len(v.Elems)-from)]...)
			}
		}
		expectStated(t, v)
		expectStatedPairs(t, v, s)
		expectConsequences(t, v, s)
		expectStated(t, str(jsonwrite.Text(v)))
	}
}

func TestLongStringsAsStated(t *testing.T) {
	r := rand.New(rand.NewSource(88))
	for range 60 {
		word := randomString(r)
		v, s := str(""), str("")
		for len(v.Str) <= r.Intn(length) && len(v.Str)+len(word) < length {
			v.Str += []string{word, "a", "é"}[r.Intn(3)]
		}
		if from := r.Intn(len(v.Str) + 1); utf8.ValidString(v.Str[from:]) {
			s.Str = v.Str[from:]
			s.Str = string([]rune(s.Str)[:min(len([]rune(s.Str)), r.Intn(4))])
		}
		expectStated(t, v)
		expectStatedPairs(t, v, s)
		expectConsequences(t, v, s)
	}
}

// FuzzText runs on its seeds with go test, and goes on from them with go test -fuzz.
func FuzzText(f *testing.F) {
	for _, s := range samples() {
		for _, other := range []string{`"a"`, `""`, "[97]", "null", `","`, `"é"`} {
			f.Add(s, other)
		}
	}
	for _, s := range []string{`"-9223372036854775808"`, `"[1,{\"a\":null}]"`, `"\ud83d\ude00"`, `[55296]`, `[1,[2],{}]`, `" a\t"`, `"aaaa"`} {
		f.Add(s, `"aa"`)
	}
	f.Fuzz(func(t *testing.T, a, b string) {
		v, _, e1 := jsonparse.Parse(a)
		s, _, e2 := jsonparse.Parse(b)
		if e1 == api.OK && e2 == api.OK {
			expectStated(t, v)
			expectStatedPairs(t, v, s)
			expectConsequences(t, v, s)
		}
		if utf8.ValidString(a) && len(a) <= api.MaxString {
			expectStated(t, str(a))
			if e2 == api.OK {
				expectStatedPairs(t, str(a), s)
			}
		}
	})
}
