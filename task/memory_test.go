package task_test

import (
	"math/rand"
	"runtime"
	"slices"
	"sync"
	"testing"
	"unsafe"

	"ndjq/api"
	"ndjq/eval"
	"ndjq/task"
)

// spareValue and spareFilter fill spare capacity, and nothing reads them.
var spareValue = api.Value{Kind: 77, Str: "spare"}

func spareFilter() api.Filter { return api.Filter{Op: 77, Text: "spare"} }

// room returns a copy of l with spare capacity, which is filled.
func room[T any](l []T, spare T) []T {
	whole := append(slices.Clone(l), spare, spare, spare)
	return whole[:len(l)]
}

// roomy returns a copy of v whose slices have spare capacity, also those that its kind does not use.
func roomy(v api.Value) api.Value {
	elems := slices.Clone(v.Elems)
	for i, elem := range elems {
		elems[i] = roomy(elem)
	}
	v.Keys, v.Elems = room(v.Keys, "spare"), room(elems, spareValue)
	return v
}

func roomyFilter(f api.Filter) api.Filter {
	subs := slices.Clone(f.Subs)
	for i, sub := range subs {
		subs[i] = roomyFilter(sub)
	}
	f.Subs, f.Params, f.Value = room(subs, spareFilter()), room(f.Params, "spare"), roomy(f.Value)
	return f
}

func (x args) roomy() args {
	values := slices.Clone(x.values)
	for i, v := range values {
		values[i] = roomy(v)
	}
	return args{roomyFilter(x.f), room(x.names, "spare"), room(values, spareValue), roomy(x.v), x.fuel}
}

// same compares two values with the spare capacity of their slices.
func same(v, w api.Value) bool {
	return v.Kind == w.Kind && v.Int == w.Int && v.Str == w.Str && len(v.Keys) == len(w.Keys) && len(v.Elems) == len(w.Elems) && slices.Equal(v.Keys[:cap(v.Keys)], w.Keys[:cap(w.Keys)]) && slices.EqualFunc(v.Elems[:cap(v.Elems)], w.Elems[:cap(w.Elems)], same)
}

func sameFilter(f, g api.Filter) bool {
	return f.Op == g.Op && f.Text == g.Text && same(f.Value, g.Value) && len(f.Params) == len(g.Params) && len(f.Subs) == len(g.Subs) && slices.Equal(f.Params[:cap(f.Params)], g.Params[:cap(g.Params)]) && slices.EqualFunc(f.Subs[:cap(f.Subs)], g.Subs[:cap(g.Subs)], sameFilter)
}

func (x args) isSame(y args) bool {
	return sameFilter(x.f, y.f) && same(x.v, y.v) && slices.Equal(x.names[:cap(x.names)], y.names[:cap(y.names)]) && slices.EqualFunc(x.values[:cap(x.values)], y.values[:cap(y.values)], same)
}

// wreck overwrites all slices of v with their spare capacity.
func wreck(v api.Value) {
	for _, elem := range v.Elems {
		wreck(elem)
	}
	wreckAll(v.Elems, spareValue)
	wreckAll(v.Keys, "wrecked")
}

func wreckAll[T any](l []T, spare T) {
	l = l[:cap(l)]
	for i := range l {
		l[i] = spare
	}
}

func wreckFilter(f api.Filter) {
	for _, sub := range f.Subs {
		wreckFilter(sub)
	}
	wreck(f.Value)
	wreckAll(f.Subs, spareFilter())
	wreckAll(f.Params, "wrecked")
}

func (x args) wreck() {
	wreckFilter(x.f)
	wreck(x.v)
	for _, v := range x.values {
		wreck(v)
	}
	wreckAll(x.values, spareValue)
	wreckAll(x.names, "wrecked")
}

// shared are arguments whose outputs are parts of the input, of literals and of variables, and such that are used more than once.
func shared(t *testing.T) []args {
	t.Helper()
	v := arr(arr(num(1), num(2)), obj([]string{"a", "b"}, arr(arr(num(3))), num(4)))
	w := arr(obj([]string{"c"}, arr(num(5))), arr())
	var l []args
	for _, s := range []string{
		".", "., .", ".[]", ".[0], .[0]", "$v, $v, $w", "[., $v, .]", "{a: ., b: $v}, $v", ". as $x | $x, $x, [$x]", "$v | .[], .", "error", "1, error", "., error($v)", "$v, ., error([., $v])", ".[] |= ., .", "reduce .[] as $x (.; . + [$x]), .", "foreach .[] as $x ($v; . + [$x]; ., $x)", "def f($a; g): $a, g, $a; f(.; .[]), f($v; $w)", "path(.[], .[][]), path(.[0])", "[paths] | .[], .", ". // 1, try error catch ., .", "label $l | ., $v, break $l", "getpath([0]), getpath([]), .[0:], .", "keys, to_entries, reverse, sort, .", "if . then .[0] else 1 end, .[0]", "[.[] | ., [.]]", "limit(3; repeat(.))", "(., $v) + .", "[..] | .[]", "map_values(.), .",
	} {
		f := openCore(t, s)
		f = n(api.OpComma, literal(v), n(api.OpComma, f, n(api.OpPipe, literal(w), f)))
		l = append(l, args{f, []string{"v", "w"}, []api.Value{w, v}, v, 400})
	}
	return l
}

func (m maker) manyArgs(t *testing.T, random int) []args {
	t.Helper()
	l := shared(t)
	for range random {
		l = append(l, m.args())
	}
	return l
}

func TestArgumentsAreNotModified(t *testing.T) {
	m := maker{rand.New(rand.NewSource(165))}
	for _, x := range m.manyArgs(t, 1000) {
		y, z := x.roomy(), x.roomy()
		a := y.task(t)
		for range x.untilEnd(t, a) {
			a.Advance(1 + m.r.Intn(20))
			a.Outcome()
		}
		if !y.isSame(z) {
			t.Errorf("%v modified its arguments", x)
		}
	}
}

// What happens to the arguments behind New has no effect on the task.
func TestArgumentsAreNotRetained(t *testing.T) {
	m := maker{rand.New(rand.NewSource(166))}
	for _, x := range m.manyArgs(t, 1000) {
		for _, before := range []int{0, 1, m.r.Intn(60)} {
			y := x.roomy()
			a, b := y.task(t), x.task(t)
			if got, want := show(a.Advance(before), a), show(b.Advance(before), b); got != want {
				t.Errorf("%v: %s, not %s", x, brief(got), brief(want))
			}
			y.wreck()
			for range x.untilEnd(t, b) {
				count := 1 + m.r.Intn(60)
				if got, want := show(a.Advance(count), a), show(b.Advance(count), b); got != want {
					t.Errorf("%v behind a change of its arguments: %s, not %s", x, brief(got), brief(want))
					break
				}
			}
		}
	}
}

// What happens to an output or an error has no effect on the task, nor on another result.
func TestOutputsAreIndependent(t *testing.T) {
	m := maker{rand.New(rand.NewSource(167))}
	for _, x := range m.manyArgs(t, 1000) {
		a, b := x.task(t), x.task(t)
		for range x.untilEnd(t, b) {
			count := 1 + m.r.Intn(20)
			outs, others := a.Advance(count), b.Advance(count)
			_, err := a.Outcome()
			_, other := a.Outcome()
			want := show(others, b)
			if got := show(outs, a); got != want || !identical(err, other) {
				t.Errorf("%v behind a change of its outputs: %s, not %s", x, brief(got), brief(want))
				break
			}
			for _, v := range outs {
				wreck(v)
			}
			wreckAll(outs, spareValue)
			wreck(err)
			if got := show(others, a); got != want {
				t.Errorf("%v: %s, not %s", x, brief(got), brief(want))
			}
		}
	}
}

// memory collects the ranges of addresses of slices, spare capacity included.
type memory [][2]uintptr

func add[T any](m *memory, l []T) {
	if cap(l) > 0 {
		from := uintptr(unsafe.Pointer(unsafe.SliceData(l)))
		*m = append(*m, [2]uintptr{from, from + uintptr(cap(l))*unsafe.Sizeof(l[:1][0])})
	}
}

func (m *memory) value(v api.Value) {
	add(m, v.Keys)
	add(m, v.Elems)
	for _, elem := range v.Elems {
		m.value(elem)
	}
}

func (m *memory) filter(f api.Filter) {
	add(m, f.Subs)
	add(m, f.Params)
	m.value(f.Value)
	for _, sub := range f.Subs {
		m.filter(sub)
	}
}

func (m *memory) values(l []api.Value) {
	add(m, l)
	for _, v := range l {
		m.value(v)
	}
}

// isShared reports whether two slices of the arguments and the results overlap.
func isShared(x args, results [][]api.Value) bool {
	var m memory
	m.filter(x.f)
	m.value(x.v)
	add(&m, x.names)
	m.values(x.values)
	for _, l := range results {
		m.values(l)
	}
	// Memory that is not held any more could be used again.
	defer runtime.KeepAlive(x)
	defer runtime.KeepAlive(results)
	slices.SortFunc(m, func(a, b [2]uintptr) int { return slices.Compare(a[:], b[:]) })
	for i := 1; i < len(m); i++ {
		if m[i][0] < m[i-1][1] {
			return true
		}
	}
	return false
}

// No two slices of arguments and results share memory, spare capacity included.
func TestResultsAreNewMemory(t *testing.T) {
	m := maker{rand.New(rand.NewSource(168))}
	for _, x := range m.manyArgs(t, 1000) {
		x = x.roomy()
		a, b := x.task(t), x.task(t)
		var results [][]api.Value
		for range x.untilEnd(t, a) {
			count := 1 + m.r.Intn(30)
			_, err := a.Outcome()
			results = append(results, a.Advance(count), b.Advance(count), []api.Value{err})
		}
		for range 2 {
			_, err := a.Outcome()
			results = append(results, []api.Value{err})
		}
		if isShared(x, results) {
			t.Errorf("results of %v share memory", x)
		}
	}
}

// Tasks with the same arguments, and evaluations between their pieces, do not concern each other.
func TestTasksAreIndependent(t *testing.T) {
	m := maker{rand.New(rand.NewSource(169))}
	for _, x := range m.manyArgs(t, 300) {
		var tasks []*task.Task
		var models []*model
		for range 3 {
			tasks, models = append(tasks, x.task(t)), append(models, newModel(x))
		}
		// The others have mostly ended, too, when the first one has.
		for step := range x.untilEnd(t, tasks[0]) {
			i, count := m.r.Intn(len(tasks)), 1+m.r.Intn(40)
			if got, want := show(tasks[i].Advance(count), tasks[i]), models[i].piece(count); got != want {
				t.Errorf("task %d of %v: %s, not %s", i, x, brief(got), brief(want))
				break
			}
			if step%5 == 0 {
				eval.Eval(x.f, x.names, x.values, x.v, x.fuel)
			}
		}
	}
}

func TestManyGoroutines(t *testing.T) {
	m := maker{rand.New(rand.NewSource(170))}
	var l []args
	for _, x := range m.manyArgs(t, 200) {
		l = append(l, x.roomy())
	}
	var group sync.WaitGroup
	for i := range 4 {
		group.Go(func() {
			for _, x := range l {
				expectStated(t, x, 7+i, 1, 30)
			}
		})
	}
	group.Wait()
}
