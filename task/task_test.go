package task_test

import (
	"fmt"
	"iter"
	"math"
	"slices"
	"strings"
	"testing"

	"ndjq/api"
	"ndjq/desugar"
	"ndjq/eval"
	"ndjq/fparse"
	"ndjq/fprint"
	"ndjq/jsonparse"
	"ndjq/jsonwrite"
	"ndjq/task"
)

func num(i int64) api.Value { return api.Value{Kind: api.Number, Int: i} }

func str(s string) api.Value { return api.Value{Kind: api.String, Str: s} }

func arr(l ...api.Value) api.Value { return api.Value{Kind: api.Array, Elems: l} }

func obj(keys []string, l ...api.Value) api.Value {
	return api.Value{Kind: api.Object, Keys: keys, Elems: l}
}

func n(op int, subs ...api.Filter) api.Filter { return api.Filter{Op: op, Subs: subs} }

func literal(v api.Value) api.Filter { return api.Filter{Op: api.OpLiteral, Value: v} }

var dot = n(api.OpIdentity)

// identical compares all fields of two values; a nil slice and an empty one are equal.
func identical(v, w api.Value) bool {
	return v.Kind == w.Kind && v.Int == w.Int && v.Str == w.Str && slices.Equal(v.Keys, w.Keys) && slices.EqualFunc(v.Elems, w.Elems, identical)
}

func brief(s string) string {
	if len(s) > 600 {
		return fmt.Sprintf("%s.. of %d bytes", s[:600], len(s))
	}
	return s
}

func showFilter(f api.Filter) string {
	if s := fprint.Print(f); s != "" {
		return brief(s)
	}
	return brief(fmt.Sprintf("%+v", f))
}

func showEnd(end int, err api.Value) string {
	switch end {
	case api.EndDone:
		return "done"
	case api.EndError:
		return "!" + jsonwrite.Text(err)
	case api.EndFuel:
		return ".."
	}
	return fmt.Sprint("end ", end)
}

// show writes a piece and the state of the task behind it: the outputs, the number of visits that were made, and how the task ended.
func show(outs []api.Value, t *task.Task) string {
	var l []string
	for _, v := range outs {
		l = append(l, jsonwrite.Text(v))
	}
	l = append(l, fmt.Sprint("@", t.Made()))
	end, err := t.Outcome()
	switch {
	case t.Ended():
		l = append(l, showEnd(end, err))
	case end != api.EndDone || !identical(err, api.Value{}):
		l = append(l, "paused with the outcome", showEnd(end, err))
	}
	return strings.Join(l, " ")
}

// core returns the core of a text, with the definitions of the prelude that it needs.
func core(t *testing.T, text string) api.Filter {
	t.Helper()
	f, at, e := fparse.Parse(text)
	if e != api.OK {
		t.Fatalf("Parse(%s): error %d at %d", brief(text), e, at)
	}
	f, place, e := desugar.Core(f)
	if e != api.OK {
		t.Fatalf("Core(%s): error %d at %v", brief(text), e, place)
	}
	return f
}

// openCore returns the core of a text in which $v and $w may be used, and are not bound.
func openCore(t *testing.T, text string) api.Filter {
	t.Helper()
	return unbound(core(t, ". as $v | . as $w | "+text))
}

// unbound returns f without the two bindings within its definitions.
func unbound(f api.Filter) api.Filter {
	if f.Op != api.OpDef {
		return f.Subs[1].Subs[1]
	}
	f.Subs = []api.Filter{f.Subs[0], unbound(f.Subs[1])}
	return f
}

func parseValue(t *testing.T, text string) api.Value {
	t.Helper()
	v, at, e := jsonparse.Parse(text)
	if e != api.OK {
		t.Fatalf("Parse(%s): error %d at %d", brief(text), e, at)
	}
	return v
}

// args are the arguments of New.
type args struct {
	f      api.Filter
	names  []string
	values []api.Value
	v      api.Value
	fuel   int
}

func (x args) task(t *testing.T) *task.Task {
	t.Helper()
	out, e := task.New(x.f, x.names, x.values, x.v, x.fuel)
	if e != api.OK || out == nil {
		t.Fatalf("New of %s with %d names, %d values and the fuel %d: error %d", showFilter(x.f), len(x.names), len(x.values), x.fuel, e)
	}
	return out
}

// untilEnd yields the numbers of the calls of Advance until the task, which has the arguments x, has ended, and fails if there are too many of them.
func (x args) untilEnd(t *testing.T, a *task.Task) iter.Seq[int] {
	return func(yield func(int) bool) {
		for calls := 1; !a.Ended(); calls++ {
			if calls > 20*(x.fuel+20) {
				t.Fatalf("%v does not end: %s", x, show(nil, a))
			}
			if !yield(calls) {
				return
			}
		}
	}
}

func (x args) String() string {
	return fmt.Sprintf("%s of %s with the fuel %d", showFilter(x.f), brief(jsonwrite.Text(x.v)), x.fuel)
}

// textArgs returns the arguments for the core of a text.
func textArgs(t *testing.T, text, input string, fuel int) args {
	t.Helper()
	return args{f: core(t, text), v: parseValue(t, input), fuel: fuel}
}

// step is a call of Advance, and what is shown behind it.
type step struct {
	n    int
	want string
}

func expect(t *testing.T, x args, steps ...step) *task.Task {
	t.Helper()
	a := x.task(t)
	if got := show(nil, a); got != "@0" {
		t.Errorf("%v: at first %s", x, got)
	}
	m := newModel(x)
	for i, s := range steps {
		if got := show(a.Advance(s.n), a); got != s.want {
			t.Errorf("%v: piece %d, of %d visits: %s, not %s", x, i+1, s.n, brief(got), brief(s.want))
		}
		if stated := m.piece(s.n); stated != s.want {
			t.Errorf("%v: piece %d, of %d visits: %s is stated, not %s", x, i+1, s.n, brief(stated), brief(s.want))
		}
	}
	return a
}

func TestExamples(t *testing.T) {
	expect(t, textArgs(t, "1, 2, 3", "null", 100), step{2, "@2"}, step{1, "1 @3"}, step{5, "2 3 @5 done"})
}

func TestP16_1NewTask(t *testing.T) {
	for _, s := range []string{".", "1, 2, 3", "error", "empty", ".[]", "def f: f; f", "[range(5)]", "path(..)", "1 as $x | $x", "try error catch ."} {
		for _, fuel := range []int{0, 1, 50, api.MaxFuel} {
			x := textArgs(t, s, "[1,2]", fuel)
			a := x.task(t)
			for range 2 {
				if got := show(nil, a); got != "@0" {
					t.Errorf("%v: at first %s", x, got)
				}
			}
		}
	}
}

func TestP16_1Errors(t *testing.T) {
	bad := api.Value{Kind: 9}
	unsorted := obj([]string{"b", "a"}, num(1), num(2))
	open := api.Filter{Op: api.OpVar, Text: "x"}
	for _, x := range []struct {
		args
		want api.Errno
	}{
		{args{dot, nil, nil, num(1), 0}, api.OK}, {args{dot, nil, nil, num(1), api.MaxFuel}, api.OK}, {args{open, []string{"x"}, []api.Value{num(1)}, num(1), 5}, api.OK}, {args{dot, []string{""}, []api.Value{{}}, num(1), 5}, api.OK},
		{args{dot, nil, nil, num(1), -1}, api.ErrRange}, {args{dot, nil, nil, num(1), api.MaxFuel + 1}, api.ErrRange}, {args{dot, nil, nil, num(1), math.MinInt}, api.ErrRange}, {args{dot, nil, nil, num(1), math.MaxInt}, api.ErrRange}, {args{dot, []string{"x"}, nil, num(1), 5}, api.ErrRange}, {args{dot, nil, []api.Value{num(1)}, num(1), 5}, api.ErrRange},
		{args{open, nil, nil, num(1), 5}, api.ErrInvalid}, {args{open, []string{"y"}, []api.Value{num(1)}, num(1), 5}, api.ErrInvalid}, {args{dot, nil, nil, bad, 5}, api.ErrInvalid}, {args{dot, nil, nil, unsorted, 0}, api.ErrInvalid}, {args{dot, []string{"x"}, []api.Value{bad}, num(1), 5}, api.ErrInvalid}, {args{dot, []string{"x", "x"}, []api.Value{unsorted, num(1)}, num(1), 5}, api.ErrInvalid}, {args{n(0), nil, nil, num(1), 5}, api.ErrInvalid}, {args{n(api.OpRecurse), nil, nil, num(1), 5}, api.ErrInvalid}, {args{literal(bad), nil, nil, num(1), 5}, api.ErrInvalid}, {args{n(api.OpInputs), nil, nil, num(1), 5}, api.ErrInvalid}, {args{n(api.OpCall), nil, nil, num(1), 5}, api.ErrInvalid},
		{args{open, nil, nil, bad, -1}, api.ErrRange}, {args{n(0), nil, nil, bad, api.MaxFuel + 1}, api.ErrRange}, {args{open, []string{"x"}, nil, bad, 5}, api.ErrRange}, {args{n(0), nil, []api.Value{bad}, num(1), 5}, api.ErrRange},
	} {
		a, e := task.New(x.f, x.names, x.values, x.v, x.fuel)
		_, ev := eval.Eval(x.f, x.names, x.values, x.v, x.fuel)
		if e != x.want || ev != x.want || (a == nil) != (e != api.OK) {
			t.Errorf("%v, %d names, %d values: error %d and a task %v, not %d; Eval returns %d", x.args, len(x.names), len(x.values), e, a != nil, x.want, ev)
		}
	}
}

func TestP16_1Variables(t *testing.T) {
	f := openCore(t, "[$v, $w], $v, ($v | . + $w)")
	x := args{f, []string{"w", "v", "w"}, []api.Value{num(1), num(2), num(3)}, num(0), 100}
	expect(t, x, step{5, "@5"}, step{1, "[2,3] @6"}, step{1, "2 @7"}, step{4, "@11"}, step{9, "5 @12 done"})
	x.values = []api.Value{num(1), arr(num(2)), arr(num(3))}
	expect(t, x, step{99, "[[2],[3]] [2] [2,3] @12 done"})
}

// The pieces are written by hand: a piece ends where another visit is to be made, behind the outputs before it.
func TestP16_2Pieces(t *testing.T) {
	for _, x := range []struct {
		text, input string
		steps       []step
	}{
		{".", "5", []step{{1, "5 @1 done"}}}, {".", "5", []step{{7, "5 @1 done"}}}, {"1, 2", "0", []step{{1, "@1"}, {1, "1 @2"}, {1, "2 @3 done"}}}, {"1, 2", "0", []step{{2, "1 @2"}, {2, "2 @3 done"}}}, {"1, 2", "0", []step{{3, "1 2 @3 done"}}}, {"1, 2", "0", []step{{1, "@1"}, {2, "1 2 @3 done"}}},
		{".[]", "[]", []step{{1, "@1"}, {1, "@2 done"}}}, {".[]", "[7]", []step{{2, "@2"}, {1, "7 @3 done"}}}, {".[]", "[7,8]", []step{{2, "@2"}, {1, "7 @3"}, {1, "8 @4 done"}}}, {".[]", `{"b":1,"a":2}`, []step{{3, "2 @3"}, {9, "1 @4 done"}}}, {".[]", "7", []step{{1, "@1"}, {1, `@2 !"type error"`}}}, {".[][]", "[[7],[],[8,9]]", []step{{4, "@4"}, {1, "7 @5"}, {1, "@6"}, {1, "@7"}, {1, "8 @8"}, {1, "9 @9 done"}}},
		{"[., .]", "5", []step{{3, "@3"}, {1, "[5,5] @4 done"}}}, {"[]", "5", []step{{1, "[] @1 done"}}}, {"{a: (1, 2), b: 3}", "0", []step{{4, "@4"}, {1, "@5"}, {1, `{"a":1,"b":3} @6`}, {2, "@8"}, {1, `{"a":2,"b":3} @9 done`}}}, {"(1, 2) + (10, 20)", "0", []step{{5, "11 @5"}, {1, "21 @6"}, {2, "@8"}, {1, "12 @9"}, {1, "22 @10 done"}}},
		{"empty", "0", []step{{1, "@1 done"}}}, {"1, empty", "0", []step{{2, "1 @2"}, {1, "@3 done"}}}, {"error", "[5]", []step{{1, "@1 ![5]"}}}, {"1, error, 2", "5", []step{{3, "1 @3"}, {1, "@4 !5"}}}, {"error(null)", "5", []step{{1, "@1"}, {1, "@2 !null"}}}, {"1 / 0", "5", []step{{2, "@2"}, {1, `@3 !"division by zero"`}}},
		{"try error catch .", "5", []step{{1, "@1"}, {1, "@2"}, {1, "5 @3 done"}}}, {"try (1, error, 2)", "5", []step{{4, "1 @4"}, {1, "@5 done"}}}, {"(null, 1) // 3", "0", []step{{3, "@3"}, {1, "1 @4 done"}}}, {"error // (3, 4)", "0", []step{{2, "@2"}, {1, "@3"}, {1, "3 @4"}, {1, "4 @5 done"}}}, {"(try (1, 2) catch 5) | error", "0", []step{{4, "@4"}, {1, "@5 !1"}}},
		{"label $f | 1, break $f, 2", "0", []step{{4, "1 @4"}, {1, "@5 done"}}}, {"(label $f | 1, break $f), 2", "0", []step{{4, "1 @4"}, {1, "@5"}, {1, "2 @6 done"}}}, {"reduce (1, 2) as $x (0; . + $x)", "0", []step{{1, "@1"}, {3, "@4"}, {6, "@10"}, {1, "3 @11 done"}}}, {"foreach (1, 2) as $x (0; $x; .)", "0", []step{{5, "@5"}, {1, "1 @6"}, {2, "@8"}, {1, "2 @9 done"}}},
		{"(1, 2) as $x | $x, 5", "0", []step{{5, "1 @5"}, {1, "5 @6"}, {4, "2 5 @10 done"}}}, {"def f: ., (. + 1 | f); f", "0", []step{{4, "0 @4"}, {7, "1 @11"}, {6, "@17"}, {1, "2 @18"}}}, {"def f($a; g): $a, g; f(1, 2; 3)", "0", []step{{5, "@5"}, {1, "1 @6"}, {2, "3 @8"}, {3, "2 @11"}, {2, "3 @13 done"}}}, {"path(.a[])", `{"a":[7,8]}`, []step{{5, "@5"}, {1, `["a",0] @6`}, {1, `["a",1] @7 done`}}}, {"path(1)", "0", []step{{1, "@1"}, {1, `@2 !"path error"`}}},
		{"if (true, false) then 1 else 2 end", "0", []step{{3, "@3"}, {1, "1 @4"}, {1, "@5"}, {1, "2 @6 done"}}}, {"false or (1, null)", "0", []step{{3, "@3"}, {1, "true @4"}, {1, "false @5 done"}}}, {"setpath([]; 1, 2)", "0", []step{{3, "@3"}, {1, "1 @4"}, {1, "2 @5 done"}}},
	} {
		expect(t, textArgs(t, x.text, x.input, 100), x.steps...)
	}
}

// Nothing is done for an n less than 1, nor behind the end.
func TestP16_2Nothing(t *testing.T) {
	x := textArgs(t, "1, error, 2", "[5]", 100)
	expect(t, x,
		step{0, "@0"}, step{-1, "@0"}, step{math.MinInt, "@0"}, step{2, "@2"}, step{0, "@2"}, step{1, "1 @3"}, step{-1, "@3"}, step{0, "@3"}, step{math.MinInt, "@3"}, step{1, "@4 ![5]"},
		step{1, "@4 ![5]"}, step{0, "@4 ![5]"}, step{-1, "@4 ![5]"}, step{100, "@4 ![5]"}, step{math.MaxInt, "@4 ![5]"})
	x.fuel = 3
	expect(t, x, step{0, "@0"}, step{3, "1 @3 .."}, step{0, "@3 .."}, step{1, "@3 .."}, step{math.MaxInt, "@3 .."})
	x.fuel = 0
	expect(t, x, step{0, "@0"}, step{-5, "@0"}, step{1, "@0 .."}, step{1, "@0 .."})
	x = textArgs(t, "1, 2", "0", 100)
	expect(t, x, step{3, "1 2 @3 done"}, step{1, "@3 done"}, step{50, "@3 done"}, step{-1, "@3 done"})
}

// A number of visits may be any int, also where its sum with those that were made is none.
func TestP16_2GreatNumbers(t *testing.T) {
	for _, great := range []int{math.MaxInt, math.MaxInt - 1, math.MaxInt - 2, 1 << 40, api.MaxFuel + 1, api.MaxFuel, 100} {
		for _, fuel := range []int{11, 12, 100, api.MaxFuel} {
			x := textArgs(t, "1, 2, 3", "0", fuel)
			expect(t, x, step{great, "1 2 3 @5 done"})
			expect(t, x, step{1, "@1"}, step{great, "1 2 3 @5 done"})
			expect(t, x, step{4, "1 2 @4"}, step{great, "3 @5 done"})
		}
		x := textArgs(t, "def f: 7, f; f", "0", 11)
		expect(t, x, step{great, "7 7 7 @11 .."})
		expect(t, x, step{4, "7 @4"}, step{great, "7 7 @11 .."})
	}
}

// The fuel counts for all pieces together, and comes before a pause.
func TestP16_2Fuel(t *testing.T) {
	for _, x := range []struct {
		text  string
		fuel  int
		steps []step
	}{
		{".", 0, []step{{1, "@0 .."}}}, {".", 0, []step{{9, "@0 .."}}}, {".", 1, []step{{1, "0 @1 done"}}}, {"1, 2", 1, []step{{1, "@1 .."}}}, {"1, 2", 2, []step{{1, "@1"}, {1, "1 @2 .."}}}, {"1, 2", 2, []step{{2, "1 @2 .."}}}, {"1, 2", 2, []step{{3, "1 @2 .."}}}, {"1, 2", 3, []step{{2, "1 @2"}, {1, "2 @3 done"}}}, {"1, 2", 3, []step{{3, "1 2 @3 done"}}}, {"1, 2", 4, []step{{3, "1 2 @3 done"}}},
		{"def f: f; f", 5, []step{{4, "@4"}, {1, "@5 .."}}}, {"def f: f; f", 5, []step{{5, "@5 .."}}}, {"def f: f; f", 5, []step{{2, "@2"}, {2, "@4"}, {2, "@5 .."}}}, {"def f: f; f", 6, []step{{5, "@5"}, {5, "@6 .."}}}, {"def f: ., f; f", 9, []step{{4, "0 @4"}, {4, "0 @8"}, {4, "@9 .."}}},
		{"try (def f: f; f) catch 5", 5, []step{{4, "@4"}, {4, "@5 .."}}}, {"(def f: f; f) // 5", 5, []step{{5, "@5 .."}}}, {"label $l | (1, 2, break $l)", 5, []step{{4, "1 @4"}, {1, "2 @5 .."}}}, {"[1, 2]", 3, []step{{2, "@2"}, {2, "@3 .."}}}, {"error", 0, []step{{1, "@0 .."}}}, {"error", 1, []step{{1, "@1 !0"}}}, {"[1, 2] | .[]", 8, []step{{7, "@7"}, {1, "1 @8 .."}}}, {"[1, 2] | .[]", 9, []step{{8, "1 @8"}, {1, "2 @9 done"}}}, {"path(., .)", 3, []step{{2, "@2"}, {1, "[] @3 .."}}},
	} {
		expect(t, textArgs(t, x.text, "0", x.fuel), x.steps...)
	}
}

// A task that has no further visit to make ends, and does not pause.
func TestP16_2EndBeforePause(t *testing.T) {
	for _, text := range nodes() {
		x := textArgs(t, text, "[1,[2],null]", 1000)
		visits, _ := eval.Visits(x.f, nil, nil, x.v, x.fuel)
		a, b := x.task(t), x.task(t)
		a.Advance(visits)
		if b.Advance(visits - 1); !a.Ended() || a.Made() != visits || b.Ended() || b.Made() != visits-1 {
			t.Errorf("%v with its %d visits: %s; with one less: %s", x, visits, show(nil, a), show(nil, b))
		}
		b.Advance(1)
		if got, want := show(nil, b), show(nil, a); got != want {
			t.Errorf("%v with one more visit: %s, not %s", x, got, want)
		}
	}
}

func TestP16_3NilTask(t *testing.T) {
	var a *task.Task
	for _, count := range []int{1, 0, -1, math.MinInt, math.MaxInt, 100} {
		outs := a.Advance(count)
		end, err := a.Outcome()
		if len(outs) != 0 || !a.Ended() || end != api.EndDone || !identical(err, api.Value{}) || a.Made() != 0 {
			t.Errorf("the nil task: %s", show(outs, a))
		}
	}
}

// The chapter does not mention the zero task; it may not panic.
func TestZeroTask(t *testing.T) {
	var a task.Task
	for _, count := range []int{1, 0, -1, math.MaxInt} {
		if got := show(a.Advance(count), &a); got != "@0 done" {
			t.Errorf("the zero task: %s", got)
		}
	}
}
