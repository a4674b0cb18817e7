package table

import (
	"fmt"
	"maps"
	"math"
	"math/big"
	"math/rand"
	"slices"
	"strings"
	"testing"

	"ndjq/api"
	"ndjq/jsonparse"
	"ndjq/jsonwrite"
	"ndjq/value"
)

// The functions with the prefix stated are a second statement of the chapter for valid values. They return a value that may be beyond a limit.

func statedLength(v api.Value) (api.Value, api.Errno) {
	switch value.TypeName(v) {
	case "null":
		return num(0), api.OK
	case "number":
		n := new(big.Int).Abs(big.NewInt(v.Int))
		return num(int64(n.And(n, new(big.Int).SetUint64(math.MaxUint64)).Uint64())), api.OK
	case "string":
		return num(int64(len([]rune(v.Str)))), api.OK
	case "array", "object":
		return num(int64(len(v.Elems))), api.OK
	}
	return api.Value{}, api.ErrType
}

// membersOf returns the members of an object, and those of an array with its indexes as texts of one length.
func membersOf(v api.Value) map[string]api.Value {
	all := map[string]api.Value{}
	for i, elem := range v.Elems {
		if v.Kind == api.Object {
			all[v.Keys[i]] = elem
		} else {
			all[fmt.Sprintf("%05d", i)] = elem
		}
	}
	return all
}

// objectOf returns the object with the members.
func objectOf(all map[string]api.Value) api.Value {
	v := obj(nil)
	for _, key := range slices.Sorted(maps.Keys(all)) {
		v.Keys, v.Elems = append(v.Keys, key), append(v.Elems, all[key])
	}
	return v
}

func statedKeys(v api.Value) (api.Value, api.Errno) {
	switch value.TypeName(v) {
	case "array":
		return upTo(len(v.Elems)), api.OK
	case "object":
		return texts(slices.Sorted(maps.Keys(membersOf(v)))), api.OK
	}
	return api.Value{}, api.ErrType
}

func statedValues(v api.Value) (api.Value, api.Errno) {
	if v.Kind < api.Array {
		return api.Value{}, api.ErrType
	}
	l, all := arr(), membersOf(v)
	for _, key := range slices.Sorted(maps.Keys(all)) {
		l.Elems = append(l.Elems, all[key])
	}
	return l, api.OK
}

func statedHas(v, k api.Value) (api.Value, api.Errno) {
	keys, e := statedKeys(v)
	fits := v.Kind == api.Object && k.Kind == api.String || v.Kind == api.Array && k.Kind == api.Number
	if e != api.OK || !fits {
		return api.Value{}, api.ErrType
	}
	return value.Bool(slices.ContainsFunc(keys.Elems, func(key api.Value) bool { return value.Equal(key, k) })), api.OK
}

// differentKinds is thrown where two parts with different kinds are compared.
type differentKinds struct{}

func statedContains(v, w api.Value) (answer api.Value, e api.Errno) {
	defer func() {
		if _, thrown := recover().(differentKinds); thrown {
			answer, e = api.Value{}, api.ErrType
		}
	}()
	return value.Bool(holds(v, w)), api.OK
}

func holds(v, w api.Value) bool {
	if value.TypeName(v) != value.TypeName(w) {
		panic(differentKinds{})
	}
	switch value.TypeName(v) {
	case "object":
		for i, key := range w.Keys {
			if elem, ok := membersOf(v)[key]; !ok || !holds(elem, w.Elems[i]) {
				return false
			}
		}
		return true
	case "array":
		for _, part := range w.Elems {
			if !slices.ContainsFunc(v.Elems, func(elem api.Value) bool { return holds(elem, part) }) {
				return false
			}
		}
		return true
	case "string":
		for from := range len(v.Str) + 1 {
			if strings.HasPrefix(v.Str[from:], w.Str) {
				return true
			}
		}
		return false
	}
	return value.Equal(v, w)
}

func statedAdd(v api.Value) (api.Value, api.Errno) {
	if v.Kind < api.Array {
		return api.Value{}, api.ErrType
	}
	var sum api.Value
	for _, elem := range v.Elems {
		switch {
		case elem.Kind == api.Null:
			continue
		case sum.Kind == api.Null:
			sum = elem
			continue
		case sum.Kind != elem.Kind || sum.Kind < api.Number:
			return api.Value{}, api.ErrType
		}
		sum = plus(sum, elem)
		if !value.Valid(sum) {
			return api.Value{}, api.ErrLimit
		}
	}
	return sum, api.OK
}

// plus returns the sum of two numbers, strings, arrays or objects.
func plus(a, b api.Value) api.Value {
	switch a.Kind {
	case api.Number:
		return num(a.Int + b.Int)
	case api.String:
		return str(a.Str + b.Str)
	case api.Array:
		return arr(slices.Concat(a.Elems, b.Elems)...)
	}
	all := membersOf(a)
	maps.Copy(all, membersOf(b))
	return objectOf(all)
}

func statedAny(v api.Value) (api.Value, api.Errno) {
	if v.Kind != api.Array {
		return api.Value{}, api.ErrType
	}
	count := 0
	for _, elem := range v.Elems {
		if elem.Kind > api.False {
			count++
		}
	}
	return value.Bool(count > 0), api.OK
}

func statedAll(v api.Value) (api.Value, api.Errno) {
	if v.Kind != api.Array {
		return api.Value{}, api.ErrType
	}
	count := 0
	for _, elem := range v.Elems {
		if elem.Kind <= api.False {
			count++
		}
	}
	return value.Bool(count == 0), api.OK
}

// statedFlatten replaces the arrays of one level after another.
func statedFlatten(v, depth api.Value) (api.Value, api.Errno) {
	if v.Kind != api.Array || depth.Kind != api.Number {
		return api.Value{}, api.ErrType
	}
	if depth.Int < 0 {
		return api.Value{}, api.ErrRange
	}
	for range min(depth.Int, api.MaxDepth) {
		next := arr()
		for _, elem := range v.Elems {
			if elem.Kind == api.Array {
				next.Elems = append(next.Elems, elem.Elems...)
			} else {
				next.Elems = append(next.Elems, elem)
			}
		}
		v = next
	}
	return v, api.OK
}

func statedReverse(v api.Value) (api.Value, api.Errno) {
	switch value.TypeName(v) {
	case "null":
		return arr(), api.OK
	case "string":
		s := ""
		for _, r := range v.Str {
			s = string(r) + s
		}
		return str(s), api.OK
	case "array":
		l := arr()
		for i := range v.Elems {
			l.Elems = append(l.Elems, v.Elems[len(v.Elems)-1-i])
		}
		return l, api.OK
	}
	return api.Value{}, api.ErrType
}

func statedKeysError(v, keys api.Value) api.Errno {
	if v.Kind != api.Array || keys.Kind != api.Array {
		return api.ErrType
	}
	if len(v.Elems) != len(keys.Elems) {
		return api.ErrRange
	}
	return api.OK
}

// statedSortBy puts one element after another behind all those whose keys are not greater.
func statedSortBy(v, keys api.Value) (api.Value, api.Errno) {
	if e := statedKeysError(v, keys); e != api.OK {
		return api.Value{}, e
	}
	var l, sorted []api.Value
	for i, key := range keys.Elems {
		at := len(l)
		for at > 0 && value.Compare(sorted[at-1], key) > 0 {
			at--
		}
		l, sorted = slices.Insert(l, at, v.Elems[i]), slices.Insert(sorted, at, key)
	}
	return arr(l...), api.OK
}

// statedGroupBy takes the elements with the least key that is left until none is left.
func statedGroupBy(v, keys api.Value) (api.Value, api.Errno) {
	if e := statedKeysError(v, keys); e != api.OK {
		return api.Value{}, e
	}
	elems, left, l := slices.Clone(v.Elems), slices.Clone(keys.Elems), arr()
	for len(left) > 0 {
		least := slices.MinFunc(left, value.Compare)
		group := arr()
		for i := 0; i < len(left); {
			if !value.Equal(left[i], least) {
				i++
				continue
			}
			group.Elems = append(group.Elems, elems[i])
			elems, left = slices.Delete(elems, i, i+1), slices.Delete(left, i, i+1)
		}
		l.Elems = append(l.Elems, group)
	}
	return l, api.OK
}

func statedUniqueBy(v, keys api.Value) (api.Value, api.Errno) {
	groups, e := statedGroupBy(v, keys)
	if e != api.OK {
		return api.Value{}, e
	}
	l := arr()
	for _, group := range groups.Elems {
		l.Elems = append(l.Elems, group.Elems[0])
	}
	return l, api.OK
}

// scan returns the element whose key is better than those before it in the end, and null if there is none.
func scan(v, keys api.Value, better func(order int) bool) (api.Value, api.Errno) {
	if e := statedKeysError(v, keys); e != api.OK {
		return api.Value{}, e
	}
	best := -1
	for i, key := range keys.Elems {
		if best < 0 || better(value.Compare(key, keys.Elems[best])) {
			best = i
		}
	}
	if best < 0 {
		return api.Value{}, api.OK
	}
	return v.Elems[best], api.OK
}

func statedMinBy(v, keys api.Value) (api.Value, api.Errno) {
	return scan(v, keys, func(order int) bool { return order < 0 })
}

func statedMaxBy(v, keys api.Value) (api.Value, api.Errno) {
	return scan(v, keys, func(order int) bool { return order >= 0 })
}

func statedToEntries(v api.Value) (api.Value, api.Errno) {
	if v.Kind != api.Object {
		return api.Value{}, api.ErrType
	}
	l, all := arr(), membersOf(v)
	for _, key := range slices.Sorted(maps.Keys(all)) {
		l.Elems = append(l.Elems, objectOf(map[string]api.Value{"value": all[key], "key": str(key)}))
	}
	return l, api.OK
}

func statedFromEntries(v api.Value) (api.Value, api.Errno) {
	if v.Kind != api.Array {
		return api.Value{}, api.ErrType
	}
	all := map[string]api.Value{}
	for _, entry := range v.Elems {
		members := membersOf(entry)
		key := members["key"]
		if entry.Kind != api.Object || key.Kind >= api.Array {
			return api.Value{}, api.ErrType
		}
		text := []string{"null", "false", "true", fmt.Sprint(key.Int), key.Str}[key.Kind]
		all[text] = members["value"]
	}
	return objectOf(all), api.OK
}

func statedTranspose(v api.Value) (api.Value, api.Errno) {
	if v.Kind != api.Array {
		return api.Value{}, api.ErrType
	}
	l := arr()
	for i, row := range v.Elems {
		if row.Kind != api.Array {
			return api.Value{}, api.ErrType
		}
		for j, elem := range row.Elems {
			if j == len(l.Elems) {
				l.Elems = append(l.Elems, arr(make([]api.Value, len(v.Elems))...))
			}
			l.Elems[j].Elems[i] = elem
		}
	}
	return l, api.OK
}

func statedUnaries() map[string]unary {
	return map[string]unary{
		"Length": statedLength, "Keys": statedKeys, "Values": statedValues, "Add": statedAdd, "Any": statedAny, "All": statedAll,
		"Reverse": statedReverse, "ToEntries": statedToEntries, "FromEntries": statedFromEntries, "Transpose": statedTranspose,
	}
}

func statedBinaries() map[string]binary {
	return map[string]binary{
		"Has": statedHas, "Contains": statedContains, "Flatten": statedFlatten,
		"SortBy": statedSortBy, "GroupBy": statedGroupBy, "UniqueBy": statedUniqueBy, "MinBy": statedMinBy, "MaxBy": statedMaxBy,
	}
}

// within returns the outcome of a stated function, where a value beyond a limit is an error.
func within(v api.Value, e api.Errno) string {
	switch {
	case e != api.OK:
		return errorName(e)
	case !value.Valid(v):
		return limit
	}
	return outcome(v, e)
}

func expectStated(t *testing.T, v api.Value) {
	t.Helper()
	stated := statedUnaries()
	for name, f := range unaries() {
		if got, want := outcome(f(v)), within(stated[name](v)); got != want {
			t.Errorf("%s of %s is %s; expected %s", name, brief(jsonwrite.Text(v)), brief(got), brief(want))
		}
	}
}

func expectStatedPairs(t *testing.T, v, w api.Value) {
	t.Helper()
	stated := statedBinaries()
	for name, f := range binaries() {
		if got, want := outcome(f(v, w)), within(stated[name](v, w)); got != want {
			t.Errorf("%s of %s and %s is %s; expected %s", name, brief(jsonwrite.Text(v)), brief(jsonwrite.Text(w)), brief(got), brief(want))
		}
	}
}

// rectangular reports whether v is an array of arrays of one length, which is not 0.
func rectangular(v api.Value) bool {
	for _, elem := range v.Elems {
		if elem.Kind != api.Array || len(elem.Elems) == 0 || len(elem.Elems) != len(v.Elems[0].Elems) {
			return false
		}
	}
	return v.Kind == api.Array
}

// elementTexts returns the sorted texts of the elements of v.
func elementTexts(v api.Value) []string {
	l := []string{}
	for _, elem := range v.Elems {
		l = append(l, jsonwrite.Text(elem))
	}
	slices.Sort(l)
	return l
}

// expectConsequences holds v and the keys against the consequences that the chapter names.
func expectConsequences(t *testing.T, v, keys api.Value) {
	t.Helper()
	text := jsonwrite.Text(v)
	if sorted, e := SortBy(v, v); e == api.OK {
		again, e := SortBy(sorted, sorted)
		if e != api.OK || !value.Equal(again, sorted) || !slices.Equal(elementTexts(sorted), elementTexts(v)) || !slices.IsSortedFunc(sorted.Elems, value.Compare) {
			t.Errorf("SortBy of %s is %s and then %s", brief(text), brief(jsonwrite.Text(sorted)), brief(jsonwrite.Text(again)))
		}
	}
	if groups, e := GroupBy(v, keys); e == api.OK {
		whole := arr()
		for _, group := range groups.Elems {
			whole.Elems = append(whole.Elems, group.Elems...)
		}
		if got := outcome(SortBy(v, keys)); got != jsonwrite.Text(whole) {
			t.Errorf("SortBy of %s by %s is %s, but the groups are %s", brief(text), brief(jsonwrite.Text(keys)), brief(got), brief(jsonwrite.Text(groups)))
		}
	}
	if entries, e := ToEntries(v); e == api.OK {
		if got := outcome(FromEntries(entries)); got != text {
			t.Errorf("FromEntries of ToEntries of %s is %s", brief(text), brief(got))
		}
	}
	if columns, e := Transpose(v); e == api.OK && rectangular(v) {
		if got := outcome(Transpose(columns)); got != text {
			t.Errorf("Transpose of Transpose of %s is %s", brief(text), brief(got))
		}
	}
}

func expectEverything(t *testing.T, v, w api.Value) {
	t.Helper()
	expectStated(t, v)
	expectStatedPairs(t, v, w)
	expectConsequences(t, v, w)
}

// lists returns all arrays of at most n of the elements.
func lists(elems []api.Value, n int) []api.Value {
	l, from := []api.Value{arr()}, 0
	for range n {
		to := len(l)
		for _, v := range l[from:to] {
			for _, elem := range elems {
				l = append(l, arr(append(v.Elems[:len(v.Elems):len(v.Elems)], elem)...))
			}
		}
		from = to
	}
	return l
}

// objects returns all objects of the elements with at most the keys.
func objects(elems []api.Value, keys ...string) []api.Value {
	l := []api.Value{obj(nil)}
	for _, key := range keys {
		for _, v := range l {
			for _, elem := range elems {
				all := membersOf(v)
				all[key] = elem
				l = append(l, objectOf(all))
			}
		}
	}
	return l
}

func TestSamplesAsStated(t *testing.T) {
	all := append(samples(), "[null]", "[1,2]", `{"a":1}`, `[{"key":"a"}]`, "[[1]]", "[[1],[2,3]]", `{"a":{"b":[1]}}`, "[3,1,2]", `["b","a"]`)
	for _, first := range all {
		for _, second := range all {
			expectEverything(t, valueOf(t, first), valueOf(t, second))
		}
	}
}

func TestShortArraysAsStated(t *testing.T) {
	for _, elems := range [][]api.Value{{num(1), num(2)}, {{}, {Kind: api.False}, {Kind: api.True}}, {str("a"), str("é"), str("")}, {num(-1), arr(num(1)), arr()}, {arr(num(1), num(2)), arr(num(3)), arr()}, {obj(nil), obj([]string{"a"}, num(1)), {}}, {num(math.MaxInt64), num(1), num(math.MinInt64)}} {
		all := lists(elems, 4)
		for _, v := range all {
			expectStated(t, v)
			for _, keys := range all {
				if difference := len(v.Elems) - len(keys.Elems); difference == 0 || len(v.Elems) < 3 && difference*difference < 2 {
					expectStatedPairs(t, v, keys)
					expectConsequences(t, v, keys)
				}
			}
		}
	}
}

func TestKeysAsStated(t *testing.T) {
	for _, elems := range [][]api.Value{{num(1), num(2), {}}, {str("a"), str("b"), num(1)}, {arr(), obj(nil), {Kind: api.True}}} {
		for _, keys := range lists(elems, 5) {
			expectStatedPairs(t, upTo(len(keys.Elems)), keys)
			expectConsequences(t, upTo(len(keys.Elems)), keys)
		}
	}
}

func TestContainsAsStated(t *testing.T) {
	atoms := []api.Value{{}, {Kind: api.False}, {Kind: api.True}, num(1), num(2), str("a"), str("ab"), str("")}
	few := []api.Value{num(1), str("a"), str("ab"), arr(num(1)), arr(num(2), str("a"))}
	all := slices.Concat(atoms, lists(atoms, 2), objects([]api.Value{num(1), str("b"), str("ab")}, "a", "b"), lists(few, 3), objects(few[1:], "a", "c"))
	for _, v := range all {
		for _, w := range all {
			if got, want := outcome(Contains(v, w)), within(statedContains(v, w)); got != want {
				t.Errorf("Contains of %s and %s is %s; expected %s", jsonwrite.Text(v), jsonwrite.Text(w), got, want)
			}
		}
	}
}

func TestEntriesAsStated(t *testing.T) {
	keys := []api.Value{{}, {Kind: api.False}, {Kind: api.True}, num(1), str("1"), str("null"), str("a"), arr(), obj(nil)}
	entries := []api.Value{obj(nil), num(1), obj([]string{"value"}, num(3))}
	for i, key := range keys {
		entries = append(entries, entry(key, num(int64(10+i))), obj([]string{"key"}, key))
	}
	for _, v := range lists(entries, 2) {
		expectStated(t, v)
	}
	for _, v := range lists([]api.Value{obj(nil), entry(str("a"), num(1)), entry(str("b"), num(2)), entry(num(1), num(3)), entry(str("a"), api.Value{}), entry(str("1"), num(4))}, 4) {
		expectStated(t, v)
	}
	for _, v := range objects([]api.Value{{}, num(1), arr(), obj([]string{"key"}, num(1))}, "a", "key", "value") {
		expectStated(t, v)
		expectConsequences(t, v, v)
	}
}

func TestTablesAsStated(t *testing.T) {
	for _, v := range lists(lists([]api.Value{num(1), {}}, 2), 4) {
		expectStated(t, v)
		expectConsequences(t, v, v)
		for depth := range int64(3) {
			expectStatedPairs(t, v, num(depth))
		}
	}
}

func randomString(r *rand.Rand) string {
	s := ""
	for range r.Intn(4) {
		s += []string{"a", "b", "é", "€", "😀"}[r.Intn(5)]
	}
	return s
}

// randomValue returns a value that is nested at most depth deep.
func randomValue(r *rand.Rand, depth int) api.Value {
	kind := r.Intn(api.Object + 1)
	if depth > 0 && r.Intn(3) == 0 {
		kind = api.Array
	}
	v := api.Value{Kind: kind}
	switch {
	case kind == api.Number:
		v.Int = int64(r.Intn(7)) - 3
	case kind == api.String:
		v.Str = randomString(r)
	case kind == api.Object:
		for _, key := range []string{"a", "b", "key", "value"} {
			if depth > 0 && r.Intn(2) == 0 {
				v.Keys, v.Elems = append(v.Keys, key), append(v.Elems, randomValue(r, depth-1))
			}
		}
	case kind == api.Array && depth > 0:
		for range r.Intn(6) {
			v.Elems = append(v.Elems, randomValue(r, depth-1))
		}
	}
	return v
}

// part returns v with some of its parts left out, so that v contains it if its kinds fit.
func part(r *rand.Rand, v api.Value) api.Value {
	out := api.Value{Kind: v.Kind, Int: v.Int, Str: v.Str}
	if runes := []rune(v.Str); len(runes) > 0 {
		out.Str = string(runes[r.Intn(len(runes)):])
	}
	for i, elem := range v.Elems {
		if r.Intn(4) == 0 {
			continue
		}
		out.Elems = append(out.Elems, part(r, elem))
		if v.Kind == api.Object {
			out.Keys = append(out.Keys, v.Keys[i])
		}
	}
	return out
}

func TestRandomValuesAsStated(t *testing.T) {
	r := rand.New(rand.NewSource(9))
	for range 20000 {
		v := randomValue(r, 4)
		expectEverything(t, v, randomValue(r, 2))
		expectStatedPairs(t, v, part(r, v))
		expectStatedPairs(t, v, num(int64(r.Intn(6))-1))
		keys := arr()
		for range v.Elems {
			keys.Elems = append(keys.Elems, randomValue(r, 1))
		}
		expectStatedPairs(t, v, keys)
		expectConsequences(t, v, keys)
	}
}

// randomKind returns a value of one kind, which fits others of it.
func randomKind(r *rand.Rand, kind int) api.Value {
	v := randomValue(r, 2)
	for v.Kind != kind {
		v = randomValue(r, 2)
	}
	return v
}

// In arrays of one kind, sums and entries often succeed.
func TestRandomArraysOfOneKindAsStated(t *testing.T) {
	r := rand.New(rand.NewSource(99))
	for range 4000 {
		v, kind := arr(), r.Intn(api.Object+1)
		for range r.Intn(8) {
			if r.Intn(6) == 0 {
				v.Elems = append(v.Elems, api.Value{})
			}
			v.Elems = append(v.Elems, randomKind(r, kind))
		}
		expectEverything(t, v, num(int64(r.Intn(4))))
		all := map[string]api.Value{}
		for _, elem := range v.Elems {
			all[randomString(r)] = elem
		}
		expectEverything(t, objectOf(all), str(randomString(r)))
	}
}

// Long arrays with few keys show whether elements with equal keys keep their order.
func TestLongArraysAsStated(t *testing.T) {
	r := rand.New(rand.NewSource(999))
	for range 60 {
		n, kinds := 1+r.Intn(300), 1+r.Intn(12)
		keys := arr()
		for range n {
			key := num(int64(r.Intn(kinds)))
			if r.Intn(4) == 0 {
				key = arr(key, str(randomString(r)))
			}
			keys.Elems = append(keys.Elems, key)
		}
		expectStatedPairs(t, upTo(n), keys)
		expectConsequences(t, upTo(n), keys)
		expectConsequences(t, keys, keys)
	}
}

// FuzzTable runs on its seeds with go test, and goes on from them with go test -fuzz.
func FuzzTable(f *testing.F) {
	for _, s := range append(samples(), `[{"key":1,"value":2},{}]`, `{"a":[1,2],"b":"x"}`, "[[1],[2,3]]", `["b","a",null]`, "[3,1,2]") {
		for _, other := range []string{"[1,0,1]", `"a"`, "0", "1", "[[1]]", `{"a":[1]}`, "null", "[null,false]"} {
			f.Add(s, other)
		}
	}
	f.Fuzz(func(t *testing.T, a, b string) {
		v, _, e1 := jsonparse.Parse(a)
		w, _, e2 := jsonparse.Parse(b)
		if e1 == api.OK && e2 == api.OK {
			expectEverything(t, v, w)
		}
	})
}
