package eval_test

import (
	"math/rand"
	"runtime"
	"slices"
	"testing"
	"unsafe"

	"ndjq/api"
	"ndjq/eval"
)

// spareValue and spareFilter fill spare capacity, and nothing reads them.
var spareValue = api.Value{Kind: 77, Str: "spare"}

func spareFilter() api.Filter { return api.Filter{Op: 77, Text: "spare"} }

// room returns a copy of l with spare capacity, which is filled.
func room[T any](l []T, spare T) []T {
	whole := append(slices.Clone(l), spare, spare, spare)
	return whole[:len(l)]
}

// roomy returns a copy of v whose slices have spare capacity, also those that its kind does not use.
func roomy(v api.Value) api.Value {
	elems := slices.Clone(v.Elems)
	for i, elem := range elems {
		elems[i] = roomy(elem)
	}
	v.Keys, v.Elems = room(v.Keys, "spare"), room(elems, spareValue)
	return v
}

func roomyFilter(f api.Filter) api.Filter {
	subs := slices.Clone(f.Subs)
	for i, sub := range subs {
		subs[i] = roomyFilter(sub)
	}
	f.Subs, f.Params, f.Value = room(subs, spareFilter()), room(f.Params, "spare"), roomy(f.Value)
	return f
}

// same compares two values with the spare capacity of their slices.
func same(v, w api.Value) bool {
	return v.Kind == w.Kind && v.Int == w.Int && v.Str == w.Str && len(v.Keys) == len(w.Keys) && len(v.Elems) == len(w.Elems) && slices.Equal(v.Keys[:cap(v.Keys)], w.Keys[:cap(w.Keys)]) && slices.EqualFunc(v.Elems[:cap(v.Elems)], w.Elems[:cap(w.Elems)], same)
}

func sameFilter(f, g api.Filter) bool {
	return f.Op == g.Op && f.Text == g.Text && same(f.Value, g.Value) && len(f.Params) == len(g.Params) && len(f.Subs) == len(g.Subs) && slices.Equal(f.Params[:cap(f.Params)], g.Params[:cap(g.Params)]) && slices.EqualFunc(f.Subs[:cap(f.Subs)], g.Subs[:cap(g.Subs)], sameFilter)
}

// args are the arguments of a call.
type args struct {
	f      api.Filter
	names  []string
	values []api.Value
	v      api.Value
}

func (m maker) args() args {
	l := []string{"a", "b", "a"}
	values := []api.Value{m.value(), m.input(), m.input()}
	f := m.filter(1+m.r.Intn(4), names{vars: l}, false)
	return args{f, l, values, m.input()}
}

func (x args) roomy() args {
	values := slices.Clone(x.values)
	for i, v := range values {
		values[i] = roomy(v)
	}
	return args{roomyFilter(x.f), room(x.names, "spare"), room(values, spareValue), roomy(x.v)}
}

func (x args) isSame(y args) bool {
	return sameFilter(x.f, y.f) && same(x.v, y.v) && slices.Equal(x.names[:cap(x.names)], y.names[:cap(y.names)]) && slices.EqualFunc(x.values[:cap(x.values)], y.values[:cap(y.values)], same)
}

func (x args) eval(fuel int) api.Outcome {
	o, _ := eval.Eval(x.f, x.names, x.values, x.v, fuel)
	return o
}

func TestArgumentsAreNotModified(t *testing.T) {
	m := maker{rand.New(rand.NewSource(157))}
	for range 3000 {
		x := m.args()
		y, z := x.roomy(), x.roomy()
		o := y.eval(300)
		_, e := eval.Visits(y.f, y.names, y.values, y.v, 300)
		isClosed := eval.Closed(y.f, y.names)
		if !y.isSame(z) || e != api.OK || !isClosed || !sameOutcome(o, x.eval(300)) {
			t.Errorf("%s modified its arguments: %s, %v, error %d", showFilter(x.f), show(o), isClosed, e)
		}
	}
}

// memory collects the ranges of addresses of slices, spare capacity included.
type memory [][2]uintptr

func add[T any](m *memory, l []T) {
	if cap(l) > 0 {
		from := uintptr(unsafe.Pointer(unsafe.SliceData(l)))
		*m = append(*m, [2]uintptr{from, from + uintptr(cap(l))*unsafe.Sizeof(l[:1][0])})
	}
}

func (m *memory) value(v api.Value) {
	add(m, v.Keys)
	add(m, v.Elems)
	for _, elem := range v.Elems {
		m.value(elem)
	}
}

func (m *memory) filter(f api.Filter) {
	add(m, f.Subs)
	add(m, f.Params)
	m.value(f.Value)
	for _, sub := range f.Subs {
		m.filter(sub)
	}
}

func (m *memory) outcome(o api.Outcome) {
	add(m, o.Outs)
	m.value(o.Err)
	for _, v := range o.Outs {
		m.value(v)
	}
}

// isShared reports whether two slices of the arguments and the outcomes overlap.
func isShared(x args, l ...api.Outcome) bool {
	var m memory
	m.filter(x.f)
	m.value(x.v)
	add(&m, x.names)
	add(&m, x.values)
	for _, v := range x.values {
		m.value(v)
	}
	for _, o := range l {
		m.outcome(o)
	}
	// Memory that is not held any more could be used again.
	defer runtime.KeepAlive(x)
	defer runtime.KeepAlive(l)
	slices.SortFunc(m, func(a, b [2]uintptr) int { return slices.Compare(a[:], b[:]) })
	for i := 1; i < len(m); i++ {
		if m[i][0] < m[i-1][1] {
			return true
		}
	}
	return false
}

// No two slices of arguments and results share memory, spare capacity included.
func TestResultsAreNewMemory(t *testing.T) {
	m := maker{rand.New(rand.NewSource(158))}
	var l []args
	for _, s := range []string{
		".", ".[0]", ".[]", "[., .]", "., .", "$a, $a", "{a: ., b: $a}", "error", "error(.[0])", "error([., .])", "error([$a, [$a]])", "1, error({a: ., b: .})", "1, error", "[.[] | ., [.]]", ". as $x | [$x, $x]", "reduce .[] as $x (.; . + [$x])", "path(.[][0]?), path(.[0])", "keys, elements, sort, reverse", "getpath([0]), getpath([])", "., (. | .[0]), .[0:]", ". // 1, try error catch .", "def f($x; g): $x, g, g; f(.; .)", "[[], {}], []", "foreach .[] as $x (.; ., [.]; ., $x)",
	} {
		for _, v := range []api.Value{arr(arr(num(1)), obj([]string{"a"}, arr(arr()))), arr(arr(), arr())} {
			l = append(l, args{unchecked(t, s), []string{"a"}, []api.Value{v}, v})
			l = append(l, args{n(api.OpComma, literal(v), n(api.OpComma, literal(v), unchecked(t, s))), []string{"a"}, []api.Value{v}, v})
		}
	}
	for range 2000 {
		l = append(l, m.args())
	}
	for _, x := range l {
		x = x.roomy()
		if isShared(x, x.eval(300), x.eval(300)) {
			t.Errorf("the results of %s share memory", showFilter(x.f))
		}
	}
}

// An argument may use one slice in several places; the result does not.
func TestSharedArguments(t *testing.T) {
	v := roomy(arr(num(1), obj([]string{"a"}, arr(num(2)))))
	for range 4 {
		v = roomy(arr(v, v))
		v.Elems[1] = v.Elems[0]
	}
	f := roomyFilter(n(api.OpComma, dot, literal(v)))
	for range 3 {
		f = n(api.OpComma, f, f)
	}
	o, e := eval.Eval(f, []string{"a", "b"}, []api.Value{v, v}, v, 1000)
	if e != api.OK || len(o.Outs) != 16 || isShared(args{}, o) {
		t.Errorf("the outputs share memory: %s, error %d", brief(show(o)), e)
	}
}

// wreck overwrites all slices of v with their spare capacity.
func wreck(v api.Value) {
	for i, elem := range v.Elems {
		wreck(elem)
		v.Elems[i] = spareValue
	}
	for i := range v.Keys {
		v.Keys[i] = "wrecked"
	}
	clear(v.Elems[len(v.Elems):cap(v.Elems)])
}

// What is done to a result has no effect on other results.
func TestCallsAreIndependent(t *testing.T) {
	m := maker{rand.New(rand.NewSource(159))}
	for range 1500 {
		x := m.args()
		o, other := x.eval(300), x.eval(300)
		want := show(o)
		for _, v := range append(o.Outs, o.Err) {
			wreck(v)
		}
		if got := show(other); got != want {
			t.Errorf("the outcome of %s became %s, not %s", showFilter(x.f), got, want)
		}
		if got := show(x.eval(300)); got != want {
			t.Errorf("the next outcome of %s is %s, not %s", showFilter(x.f), got, want)
		}
	}
}

func TestManyGoroutines(t *testing.T) {
	m := maker{rand.New(rand.NewSource(160))}
	var l []args
	for range 1000 {
		l = append(l, m.args().roomy())
	}
	done := make(chan struct{})
	for range 4 {
		go func() {
			for _, x := range l {
				expectStated(t, x.f, x.names, x.values, x.v, 200)
			}
			done <- struct{}{}
		}()
	}
	for range 4 {
		<-done
	}
}
