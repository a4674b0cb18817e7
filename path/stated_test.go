package path

import (
	"maps"
	"math"
	"math/big"
	"math/rand"
	"slices"
	"strings"
	"testing"

	"ndjq/api"
	"ndjq/jsonparse"
	"ndjq/jsonwrite"
	"ndjq/value"
)

// statedKind tells apart names, indexes and slices; the empty string stands for what is no step.
func statedKind(s api.Value) string {
	switch s.Kind {
	case api.String:
		return "name"
	case api.Number:
		return "index"
	}
	end, ok1 := value.Get(s, "end")
	start, ok2 := value.Get(s, "start")
	for _, bound := range []api.Value{end, start} {
		if name := value.TypeName(bound); name != "null" && name != "number" {
			return ""
		}
	}
	if ok1 && ok2 && len(s.Elems) == 2 {
		return "slice"
	}
	return ""
}

// statedBounds calculates without a bound.
func statedBounds(s api.Value, n int) (int, int) {
	all := big.NewInt(int64(n))
	bound := func(name string, missing int) int {
		v, _ := value.Get(s, name)
		if v.Kind == api.Null {
			return missing
		}
		x := big.NewInt(v.Int)
		if x.Sign() < 0 {
			x.Add(x, all)
		}
		switch {
		case x.Sign() < 0:
			return 0
		case x.Cmp(all) > 0:
			return n
		}
		return int(x.Int64())
	}
	from, to := bound("start", 0), bound("end", n)
	if to < from {
		to = from
	}
	return from, to
}

// statedAt returns the index that s denotes in n elements, or -1.
func statedAt(s api.Value, n int) int {
	for i := range n {
		if s.Int == int64(i) || s.Int == int64(i-n) {
			return i
		}
	}
	return -1
}

// statedStep is a second statement of Step in P7.1 for valid values.
func statedStep(v, s api.Value) (api.Value, api.Errno) {
	switch statedKind(s) + " of " + value.TypeName(v) {
	case "name of null", "index of null", "slice of null":
		return api.Value{}, api.OK
	case "name of object":
		w, _ := value.Get(v, s.Str)
		return w, api.OK
	case "index of array":
		if i := statedAt(s, len(v.Elems)); i >= 0 {
			return v.Elems[i], api.OK
		}
		return api.Value{}, api.OK
	case "slice of array":
		from, to := statedBounds(s, len(v.Elems))
		return arr(v.Elems[from:to]...), api.OK
	case "slice of string":
		runes := []rune(v.Str)
		from, to := statedBounds(s, len(runes))
		return str(string(runes[from:to])), api.OK
	}
	return api.Value{}, api.ErrType
}

func statedGet(v, p api.Value) (api.Value, api.Errno) {
	if p.Kind != api.Array {
		return api.Value{}, api.ErrType
	}
	for _, s := range p.Elems {
		w, e := statedStep(v, s)
		if e != api.OK {
			return api.Value{}, e
		}
		v = w
	}
	return v, api.OK
}

// statedMembers returns an object with the members of a map.
func statedMembers(all map[string]api.Value) api.Value {
	v := obj(slices.Sorted(maps.Keys(all)))
	for _, key := range v.Keys {
		v.Elems = append(v.Elems, all[key])
	}
	return v
}

func membersOf(v api.Value) map[string]api.Value {
	all := map[string]api.Value{}
	for i, key := range v.Keys {
		all[key] = v.Elems[i]
	}
	return all
}

// statedSet is a second statement of P7.2 for valid values.
func statedSet(v, p, x api.Value) (api.Value, api.Errno) {
	switch {
	case p.Kind != api.Array:
		return api.Value{}, api.ErrType
	case len(p.Elems) == 0:
		return x, api.OK
	}
	s := p.Elems[0]
	w, e := statedStep(v, s)
	if e != api.OK {
		return api.Value{}, e
	}
	y, e := statedSet(w, arr(p.Elems[1:]...), x)
	if e != api.OK {
		return api.Value{}, e
	}
	out, e := statedPut(v, s, y)
	if e == api.OK && !value.Valid(out) {
		return api.Value{}, api.ErrLimit
	}
	return out, e
}

func statedPut(v, s, y api.Value) (api.Value, api.Errno) {
	switch statedKind(s) {
	case "name":
		all := membersOf(v)
		all[s.Str] = y
		return statedMembers(all), api.OK
	case "index":
		return statedPutElement(slices.Clone(v.Elems), s.Int, y)
	}
	if v.Kind == api.String || y.Kind != api.Array {
		return api.Value{}, api.ErrType
	}
	from, to := statedBounds(s, len(v.Elems))
	return arr(slices.Concat(v.Elems[:from], y.Elems, v.Elems[to:])...), api.OK
}

// statedPutElement extends l no further than to the first length that is too much.
func statedPutElement(l []api.Value, index int64, y api.Value) (api.Value, api.Errno) {
	if index < 0 {
		index += int64(len(l))
	}
	if index < 0 {
		return api.Value{}, api.ErrRange
	}
	for int64(len(l)) <= index && len(l) <= api.MaxElems {
		l = append(l, api.Value{})
	}
	if int64(len(l)) > index {
		l[index] = y
	}
	return arr(l...), api.OK
}

// statedDelete is a second statement of P7.3 for valid values.
func statedDelete(v, ps api.Value) (api.Value, api.Errno) {
	if ps.Kind != api.Array {
		return api.Value{}, api.ErrType
	}
	left := slices.Clone(ps.Elems)
	for len(left) > 0 {
		p := slices.MaxFunc(left, value.Compare)
		left = slices.DeleteFunc(left, func(other api.Value) bool { return value.Equal(p, other) })
		if p.Kind != api.Array {
			return api.Value{}, api.ErrType
		}
		rest, e := statedRemove(v, p.Elems)
		if e != api.OK {
			return api.Value{}, e
		}
		v = rest
	}
	return v, api.OK
}

func statedRemove(v api.Value, steps []api.Value) (api.Value, api.Errno) {
	if len(steps) == 0 {
		return api.Value{}, api.OK
	}
	s := steps[0]
	w, e := statedStep(v, s)
	if e != api.OK || v.Kind == api.String {
		return api.Value{}, api.ErrType
	}
	all := membersOf(v)
	kind := statedKind(s)
	_, named := all[s.Str]
	if v.Kind == api.Null || kind == "name" && !named || kind == "index" && statedAt(s, len(v.Elems)) < 0 {
		return v, api.OK
	}
	if len(steps) > 1 {
		y, e := statedRemove(w, steps[1:])
		if e != api.OK {
			return api.Value{}, e
		}
		return statedPut(v, s, y)
	}
	switch kind {
	case "name":
		delete(all, s.Str)
		return statedMembers(all), api.OK
	case "index":
		at := num(int64(statedAt(s, len(v.Elems))))
		return statedPut(v, between(at, num(at.Int+1)), arr())
	}
	return statedPut(v, s, arr())
}

func text(v api.Value) string {
	return brief(jsonwrite.Text(v))
}

func expectStatedStep(t *testing.T, v, s api.Value) {
	t.Helper()
	if got, want := outcome(Step(v, s)), outcome(statedStep(v, s)); got != want {
		t.Errorf("Step of %s by %s is %s; expected %s", text(v), text(s), brief(got), brief(want))
	}
}

func expectStatedGet(t *testing.T, v, p api.Value) {
	t.Helper()
	if got, want := outcome(Get(v, p)), outcome(statedGet(v, p)); got != want {
		t.Errorf("Get of %s at %s is %s; expected %s", text(v), text(p), brief(got), brief(want))
	}
}

func expectStatedSet(t *testing.T, v, p, x api.Value) {
	t.Helper()
	if got, want := outcome(Set(v, p, x)), outcome(statedSet(v, p, x)); got != want {
		t.Errorf("Set of %s at %s to %s is %s; expected %s", text(v), text(p), text(x), brief(got), brief(want))
	}
}

func expectStatedDelete(t *testing.T, v, ps api.Value) {
	t.Helper()
	if got, want := outcome(Delete(v, ps)), outcome(statedDelete(v, ps)); got != want {
		t.Errorf("Delete of %s from %s is %s; expected %s", text(ps), text(v), brief(got), brief(want))
	}
}

// A part that was set is there. Of slices, this does not hold.
func expectSetIsThere(t *testing.T, v, p, x api.Value) {
	t.Helper()
	if slices.ContainsFunc(p.Elems, func(s api.Value) bool { return statedKind(s) == "slice" }) {
		return
	}
	if w, e := Set(v, p, x); e == api.OK {
		if got, want := outcome(Get(w, p)), jsonwrite.Text(x); got != want {
			t.Errorf("behind Set of %s at %s to %s there is %s", text(v), text(p), text(x), brief(got))
		}
	}
}

// expectParts expects that all parts of v are found, can be set to what they are, and are removed with nothing else.
func expectParts(t *testing.T, v api.Value) {
	t.Helper()
	l := Paths(v)
	if len(l)+1 != value.Nodes(v) {
		t.Fatalf("%s has %d paths", text(v), len(l))
	}
	for _, p := range l {
		w, e := Get(v, p)
		if got := outcome(Set(v, p, w)); e != api.OK || got != jsonwrite.Text(v) {
			t.Errorf("Set of %s at %s to what is there is %s", text(v), text(p), brief(got))
		}
		rest, e := Delete(v, arr(p))
		if e != api.OK || len(Paths(rest))+value.Nodes(w) != len(l) {
			t.Errorf("Delete of %s from %s is %s", text(p), text(v), brief(outcome(rest, e)))
		}
		front := arr(p.Elems[:len(p.Elems)-1]...)
		before, _ := Get(v, front)
		after, _ := Get(rest, front)
		if len(after.Elems) != len(before.Elems)-1 {
			t.Errorf("Delete of %s from %s leaves %s", text(p), text(v), text(after))
		}
	}
}

// pool are steps of all kinds, and values that are no steps.
func pool() []string {
	return []string{
		`"a"`, `"b"`, `""`, `"end"`, "0", "1", "2", "-1", "-2", "-3", "5000", greatest, least, "<:>", "<1:>", "<:1>", "<:-1>", "<-1:>", "<1:2>", "<2:1>", "<-2:-1>", "<9:>", "<" + least + ":" + greatest + ">", "<" + greatest + ":" + least + ">",
		"null", "true", "[]", "[0]", "{}", `{"start":0}`, `{"start":0,"end":"a"}`,
	}
}

// smallValues are values to read and to change.
func smallValues() []string {
	return []string{
		"null", "true", "3", `"aé€"`, `""`, "[]", "[1]", "[1,2,3]", "[null,[1,2],[[3]]]", `["ab",{"a":1}]`, "{}", `{"a":1}`, `{"a":[1,2],"b":{"a":null}}`, `{"":{"b":"xy"},"end":[{}]}`, "<:>", "<1:2>",
	}
}

func TestShortPathsAsStated(t *testing.T) {
	var l []api.Value
	for _, a := range pool() {
		l = append(l, parse(t, "["+a+"]"))
		for _, b := range pool() {
			l = append(l, parse(t, "["+a+","+b+"]"))
		}
	}
	for _, s := range smallValues() {
		v := parse(t, s)
		expectParts(t, v)
		for _, a := range pool() {
			expectStatedStep(t, v, parse(t, a))
		}
		for _, p := range l {
			expectStatedGet(t, v, p)
			expectStatedDelete(t, v, arr(p))
			for _, other := range []string{"null", "7", "[]", "[7,8]", `{"c":7}`} {
				x := parse(t, other)
				expectStatedSet(t, v, p, x)
				expectSetIsThere(t, v, p, x)
			}
		}
	}
}

func TestPairsOfPathsAsStated(t *testing.T) {
	paths := []string{"[]", "[0,0]", "[0,<:>]", `["a",0]`, `["a",<1:>]`, `["b","a"]`, "[<1:>,0]", "[<1:>,<1:>]", "[-1,0]", "[<:>,9]", "0", "null"}
	for _, s := range pool() {
		paths = append(paths, "["+s+"]")
	}
	for _, s := range smallValues() {
		v := parse(t, s)
		for _, p := range paths {
			for _, q := range paths {
				expectStatedDelete(t, v, parse(t, "["+p+","+q+"]"))
				expectStatedDelete(t, v, parse(t, "["+p+","+q+","+p+"]"))
			}
		}
	}
}

// Up to three elements of arrays are removed in all orders.
func TestOrdersOfPathsAsStated(t *testing.T) {
	steps := []string{"0", "1", "2", "3", "-1", "-2", "-3", "-4", "<0:1>", "<1:2>", "<:>", "<-1:>", "<:-1>"}
	v := parse(t, "[1,2,3,4]")
	for _, a := range steps {
		for _, b := range steps {
			for _, c := range steps {
				expectStatedDelete(t, v, parse(t, "[["+a+"],["+b+"],["+c+"]]"))
			}
		}
	}
}

func TestBoundsAsStated(t *testing.T) {
	bounds := []int64{0, 1, 2, 3, 4, 5, 6, math.MaxInt64, math.MaxInt64 - 1, 1 << 31, 1<<32 + 1, 1 << 62}
	l := []api.Value{{}, num(math.MinInt64), num(math.MinInt64 + 1)}
	for _, n := range bounds {
		l = append(l, num(n), num(-n))
	}
	for n := range 6 {
		list := arr(many(api.Value{}, n)...)
		for i := range list.Elems {
			list.Elems[i] = num(int64(i))
		}
		word := str(strings.Join(strings.Split("aé€😀z", "")[:min(n, 5)], ""))
		for _, from := range l {
			for _, to := range l {
				s, e := SliceStep(from, to)
				if e != api.OK {
					t.Fatal("SliceStep:", errorName(e))
				}
				expectStatedStep(t, list, s)
				expectStatedStep(t, word, s)
				expectStatedSet(t, list, arr(s), arr(num(7), num(8)))
				expectStatedSet(t, list, arr(s, num(1)), num(7))
				expectStatedDelete(t, list, arr(arr(s)))
				expectStatedDelete(t, list, arr(arr(s, num(1))))
			}
			expectStatedStep(t, list, from)
			expectStatedSet(t, list, arr(from), num(7))
			expectStatedDelete(t, list, arr(arr(from)))
		}
	}
}

func randomString(r *rand.Rand) string {
	s := ""
	for range r.Intn(5) {
		s += []string{"a", "b", "é", "€", "😀"}[r.Intn(5)]
	}
	return s
}

// randomValue returns a value that is nested at most depth deep.
func randomValue(r *rand.Rand, depth int) api.Value {
	kind := r.Intn(api.Object + 1)
	if depth > 0 && r.Intn(3) > 0 {
		kind = api.Array + r.Intn(2)
	}
	v := api.Value{Kind: kind}
	switch {
	case kind == api.Number:
		v.Int = int64(r.Intn(7)) - 3
	case kind == api.String:
		v.Str = randomString(r)
	case kind == api.Object:
		for i := range 4 {
			if depth > 0 && r.Intn(2) == 0 {
				v.Keys, v.Elems = append(v.Keys, "abcd"[i:i+1]), append(v.Elems, randomValue(r, depth-1))
			}
		}
	case kind == api.Array && depth > 0:
		for range r.Intn(6) {
			v.Elems = append(v.Elems, randomValue(r, depth-1))
		}
	}
	return v
}

func randomBound(r *rand.Rand) api.Value {
	if r.Intn(3) == 0 {
		return api.Value{}
	}
	return num(int64(r.Intn(13)) - 6)
}

// randomStep returns a step that mostly fits v.
func randomStep(r *rand.Rand, v api.Value) api.Value {
	kind := v.Kind
	if r.Intn(20) == 0 {
		kind = r.Intn(api.Object + 1)
	}
	switch {
	case r.Intn(100) == 0:
		return randomValue(r, 1)
	case kind == api.Object && len(v.Keys) > 0 && r.Intn(4) > 0:
		return str(v.Keys[r.Intn(len(v.Keys))])
	case kind == api.Object || kind == api.Null && r.Intn(3) > 0:
		return str("abcde"[r.Intn(5):][:1])
	case kind == api.String || r.Intn(3) == 0:
		return between(randomBound(r), randomBound(r))
	}
	return num(int64(r.Intn(12)) - 5)
}

// randomPath returns a path that mostly denotes a part of v.
func randomPath(r *rand.Rand, v api.Value) api.Value {
	p := arr()
	for range r.Intn(5) {
		s := randomStep(r, v)
		p.Elems = append(p.Elems, s)
		v, _ = statedStep(v, s)
	}
	return p
}

func TestRandomPathsAsStated(t *testing.T) {
	r := rand.New(rand.NewSource(7))
	changed, removed := 0, 0
	for range 30000 {
		v, x := randomValue(r, 4), randomValue(r, 2)
		p, ps := randomPath(r, v), arr()
		for range r.Intn(5) {
			ps.Elems = append(ps.Elems, randomPath(r, v))
		}
		expectStatedGet(t, v, p)
		expectStatedSet(t, v, p, x)
		expectSetIsThere(t, v, p, x)
		expectStatedDelete(t, v, ps)
		if _, e := Set(v, p, x); e == api.OK && len(p.Elems) > 1 {
			changed++
		}
		if w, e := Delete(v, ps); e == api.OK && w.Kind != api.Null && value.Nodes(w) < value.Nodes(v) {
			removed++
		}
	}
	if changed < 5000 || removed < 2500 {
		t.Error("few changes:", changed, removed)
	}
}

func TestRandomPartsAsStated(t *testing.T) {
	r := rand.New(rand.NewSource(77))
	for range 1000 {
		expectParts(t, randomValue(r, 4))
	}
}

// Get of a path is the chain of its steps, and Set at a path of two is Set within Set.
func TestPathsAreChains(t *testing.T) {
	r := rand.New(rand.NewSource(777))
	for range 20000 {
		v, x := randomValue(r, 4), randomValue(r, 2)
		p := randomPath(r, v)
		if len(p.Elems) == 0 {
			continue
		}
		first, rest := p.Elems[0], arr(p.Elems[1:]...)
		w, e := Step(v, first)
		whole := outcome(Get(v, p))
		inner := outcome(Get(w, rest))
		if e != api.OK {
			inner = errorName(e)
		}
		if whole != inner {
			t.Errorf("Get of %s at %s is %s, in two steps %s", text(v), text(p), whole, inner)
		}
		y, e2 := Set(w, rest, x)
		if e != api.OK || e2 != api.OK {
			continue
		}
		if got, want := outcome(Set(v, p, x)), outcome(Set(v, arr(first), y)); got != want {
			t.Errorf("Set of %s at %s to %s is %s, in two steps %s", text(v), text(p), text(x), got, want)
		}
	}
}

// FuzzPaths runs on its seeds with go test, and goes on from them with go test -fuzz.
func FuzzPaths(f *testing.F) {
	for _, s := range smallValues() {
		for _, p := range []string{"[]", `["a"]`, `["a",0]`, "[0,0]", "[-1]", "[<1:>]", "[<1:>,-1]", `["b","a","c"]`, "[[0],[1],[-1]]", `[["a"],["b","a"]]`, "[[<1:>,0],[0]]", "[[]]"} {
			f.Add(expand(s), expand(p), "[7,8]")
		}
	}
	f.Fuzz(func(t *testing.T, a, b, c string) {
		v, _, e1 := jsonparse.Parse(a)
		p, _, e2 := jsonparse.Parse(b)
		x, _, e3 := jsonparse.Parse(c)
		if e1 != api.OK || e2 != api.OK || e3 != api.OK {
			return
		}
		expectStatedStep(t, v, p)
		expectStatedGet(t, v, p)
		expectStatedSet(t, v, p, x)
		expectSetIsThere(t, v, p, x)
		expectStatedDelete(t, v, p)
		expectParts(t, v)
	})
}
