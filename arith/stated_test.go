package arith

import (
	"maps"
	"math"
	"math/big"
	"math/rand"
	"slices"
	"strings"
	"testing"

	"ndjq/api"
	"ndjq/jsonparse"
	"ndjq/jsonwrite"
	"ndjq/value"
)

// stated is a second statement of P6.1 to P6.3 for valid values and the operators of the chapter.
func stated(op string, a, b api.Value) (api.Value, api.Errno) {
	order := value.Compare(a, b)
	answers := map[string]bool{"==": order == 0, "!=": order != 0, "<": order == -1, "<=": order != 1, ">": order == 1, ">=": order != -1}
	if answer, ok := answers[op]; ok {
		return value.Bool(answer), api.OK
	}
	switch {
	case op == "+" && a.Kind == api.Null:
		return b, api.OK
	case op == "+" && b.Kind == api.Null:
		return a, api.OK
	case op == "*" && a.Kind == api.Number && b.Kind == api.String:
		return stated(op, b, a)
	case op == "*" && a.Kind == api.String && b.Kind == api.Number:
		return statedRepeat(a.Str, b.Int)
	case a.Kind != b.Kind:
		return api.Value{}, api.ErrType
	}
	v, e := api.Value{}, api.ErrType
	switch a.Kind {
	case api.Number:
		v, e = statedNumber(op, a.Int, b.Int)
	case api.String:
		v, e = statedString(op, a.Str, b.Str)
	case api.Array:
		v, e = statedArray(op, a.Elems, b.Elems)
	case api.Object:
		v, e = statedObject(op, a, b)
	}
	if e == api.OK && !value.Valid(v) {
		return api.Value{}, api.ErrLimit
	}
	return v, e
}

// statedRepeat repeats no further than a string may be long.
func statedRepeat(s string, n int64) (api.Value, api.Errno) {
	if n <= 0 {
		return api.Value{}, api.OK
	}
	out := ""
	for i := int64(0); i < n && s != ""; i++ {
		out += s
		if len(out) > api.MaxString {
			return api.Value{}, api.ErrLimit
		}
	}
	return str(out), api.OK
}

// statedNumber calculates without a bound, and takes the last 64 bits.
func statedNumber(op string, a, b int64) (api.Value, api.Errno) {
	x, y, z := big.NewInt(a), big.NewInt(b), new(big.Int)
	if b == 0 && (op == "/" || op == "%") {
		return api.Value{}, api.ErrZero
	}
	switch op {
	case "+":
		z.Add(x, y)
	case "-":
		z.Sub(x, y)
	case "*":
		z.Mul(x, y)
	case "/":
		z.Quo(x, y)
	case "%":
		z.Rem(x, y)
	}
	return num(int64(z.And(z, new(big.Int).SetUint64(math.MaxUint64)).Uint64())), api.OK
}

func statedString(op, a, b string) (api.Value, api.Errno) {
	switch op {
	case "+":
		return str(strings.Join([]string{a, b}, "")), api.OK
	case "/":
		v := arr()
		for _, part := range parts(a, b) {
			v.Elems = append(v.Elems, str(part))
		}
		return v, api.OK
	}
	return api.Value{}, api.ErrType
}

func statedArray(op string, a, b []api.Value) (api.Value, api.Errno) {
	v := arr()
	switch op {
	case "+":
		for _, l := range [][]api.Value{a, b} {
			v.Elems = append(v.Elems, l...)
		}
		return v, api.OK
	case "-":
		for _, elem := range a {
			if !slices.ContainsFunc(b, func(other api.Value) bool { return value.Equal(elem, other) }) {
				v.Elems = append(v.Elems, elem)
			}
		}
		return v, api.OK
	}
	return api.Value{}, api.ErrType
}

// statedObject adds or merges.
func statedObject(op string, a, b api.Value) (api.Value, api.Errno) {
	if op != "+" && op != "*" {
		return api.Value{}, api.ErrType
	}
	all := map[string]api.Value{}
	for i, key := range a.Keys {
		all[key] = a.Elems[i]
	}
	for i, key := range b.Keys {
		before, now := all[key], b.Elems[i]
		if op == "*" && before.Kind == api.Object && now.Kind == api.Object {
			now, _ = statedObject(op, before, now)
		}
		all[key] = now
	}
	v := obj(slices.Sorted(maps.Keys(all)))
	for _, key := range v.Keys {
		v.Elems = append(v.Elems, all[key])
	}
	return v, api.OK
}

func expectStated(t *testing.T, op string, a, b api.Value) {
	t.Helper()
	if got, want := binary(op, a, b), outcome(stated(op, a, b)); got != want {
		t.Errorf("%s %s %s is %s; expected %s", brief(jsonwrite.Text(a)), op, brief(jsonwrite.Text(b)), brief(got), brief(want))
	}
	if op != "*" || a.Kind != api.Object || b.Kind != api.Object {
		return
	}
	if got, want := outcome(Merge(a, b)), outcome(stated(op, a, b)); got != want {
		t.Errorf("Merge of %s and %s is %s; expected %s", brief(jsonwrite.Text(a)), brief(jsonwrite.Text(b)), brief(got), brief(want))
	}
}

func TestSamplesAsStated(t *testing.T) {
	for _, a := range samples() {
		for _, b := range samples() {
			for _, op := range operators() {
				expectStated(t, op, parse(t, a), parse(t, b))
			}
		}
	}
}

// borders are numbers at which something is rounded or wrapped.
func borders() []int64 {
	l := []int64{0, 3, 5, 7, 10, 3037000499, 3037000500, math.MaxInt64, math.MaxInt64 - 1, math.MinInt64, math.MinInt64 + 1}
	for _, shift := range []int{0, 1, 15, 31, 32, 61, 62} {
		l = append(l, 1<<shift, 1<<shift-1, 1<<shift+1)
	}
	for _, n := range l {
		l = append(l, -n)
	}
	return l
}

func TestNumbersAsStated(t *testing.T) {
	for _, a := range borders() {
		for _, b := range borders() {
			for _, op := range operators() {
				expectStated(t, op, num(a), num(b))
			}
			expectDivision(t, a, b)
		}
		if got, want := outcome(Neg(num(a))), binary("-", num(0), num(a)); got != want {
			t.Errorf("Neg of %d is %s", a, got)
		}
	}
}

// expectDivision expects that a is (a / b) * b + a % b, and that the remainder is less than b and has the sign of a or is 0.
func expectDivision(t *testing.T, a, b int64) {
	t.Helper()
	if b == 0 {
		return
	}
	quotient, _ := Binary("/", num(a), num(b))
	rest, _ := Binary("%", num(a), num(b))
	product, _ := Binary("*", quotient, num(b))
	if back, _ := sum(product, rest); back.Int != a {
		t.Errorf("(%d / %d) * %d + %d %% %d is %d", a, b, b, a, b, back.Int)
	}
	less := new(big.Int).Abs(big.NewInt(rest.Int)).Cmp(new(big.Int).Abs(big.NewInt(b))) < 0
	if !less || rest.Int < 0 && a >= 0 || rest.Int > 0 && a <= 0 {
		t.Errorf("%d %% %d is %d", a, b, rest.Int)
	}
}

func randomNumber(r *rand.Rand) int64 {
	if r.Intn(2) == 0 {
		return int64(r.Intn(5)) - 1
	}
	return int64(r.Uint64()) >> r.Intn(64)
}

func randomString(r *rand.Rand) string {
	s := ""
	for range r.Intn(5) {
		s += []string{"a", "a", "b", ",", "é", "\n"}[r.Intn(6)]
	}
	return s
}

func randomKind(r *rand.Rand, depth int) int {
	if depth == 0 {
		return r.Intn(api.String + 1)
	}
	return r.Intn(api.Object + 1)
}

// randomValue returns a value of a kind that is nested at most depth deep. Its elements and keys come from few, so that equal ones meet.
func randomValue(r *rand.Rand, kind, depth int) api.Value {
	v := api.Value{Kind: kind}
	switch kind {
	case api.Number:
		v.Int = randomNumber(r)
	case api.String:
		v.Str = randomString(r)
	case api.Object:
		for i := range 5 {
			if r.Intn(2) == 0 {
				v.Keys = append(v.Keys, "abcde"[i:i+1])
				v.Elems = append(v.Elems, randomValue(r, randomKind(r, depth-1), depth-1))
			}
		}
	case api.Array:
		for range r.Intn(6) {
			v.Elems = append(v.Elems, randomValue(r, randomKind(r, depth-1), depth-1))
		}
	}
	return v
}

// randomValues returns n values, most of which are of one kind.
func randomValues(r *rand.Rand, n int) []api.Value {
	kind := randomKind(r, 3)
	l := make([]api.Value, n)
	for i := range l {
		l[i] = randomValue(r, kind, 3)
		if r.Intn(8) == 0 {
			l[i] = randomValue(r, randomKind(r, 3), 3)
		}
	}
	return l
}

func TestRandomValuesAsStated(t *testing.T) {
	r := rand.New(rand.NewSource(6))
	for range 20000 {
		l := randomValues(r, 2)
		for _, op := range operators() {
			expectStated(t, op, l[0], l[1])
		}
	}
}

// sum returns the sum of two values, and false if there is an error.
func sum(a, b api.Value) (api.Value, bool) {
	v, e := Binary("+", a, b)
	return v, e == api.OK
}

// Where both ways return no error, they are equal.
func TestSumsAreAssociative(t *testing.T) {
	r := rand.New(rand.NewSource(66))
	compared := 0
	for range 20000 {
		l := randomValues(r, 3)
		first, ok1 := sum(l[0], l[1])
		last, ok2 := sum(l[1], l[2])
		left, ok3 := sum(first, l[2])
		right, ok4 := sum(l[0], last)
		if !ok1 || !ok2 || !ok3 || !ok4 {
			continue
		}
		compared++
		if x, y := jsonwrite.Text(left), jsonwrite.Text(right); x != y {
			t.Errorf("the sum of %s, %s and %s is %s or %s", jsonwrite.Text(l[0]), jsonwrite.Text(l[1]), jsonwrite.Text(l[2]), x, y)
		}
	}
	if compared < 5000 {
		t.Error("few sums of three values:", compared)
	}
}

func TestSumsOfNumbersAreCommutative(t *testing.T) {
	for _, a := range borders() {
		for _, b := range borders() {
			if x, y := binary("+", num(a), num(b)), binary("+", num(b), num(a)); x != y {
				t.Errorf("%d + %d is %s or %s", a, b, x, y)
			}
		}
	}
}

// FuzzBinary runs on its seeds with go test, and goes on from them with go test -fuzz.
func FuzzBinary(f *testing.F) {
	for _, op := range append(operators(), "**") {
		f.Add(op, greatest, least)
		f.Add(op, `"a,b"`, `","`)
		f.Add(op, `"ab"`, "3")
		f.Add(op, "[1,2,[1]]", "[1,[1]]")
		f.Add(op, `{"a":{"b":1},"c":2}`, `{"a":{"c":[]},"d":null}`)
	}
	f.Fuzz(func(t *testing.T, op, a, b string) {
		x, _, e1 := jsonparse.Parse(a)
		y, _, e2 := jsonparse.Parse(b)
		switch {
		case e1 != api.OK || e2 != api.OK:
			return
		case slices.Contains(operators(), op):
			expectStated(t, op, x, y)
		case binary(op, x, y) != outOfRange:
			t.Errorf("%s with the operator %q is %s", a, op, binary(op, x, y))
		}
	})
}
