package task_test

import (
	"testing"

	"ndjq/api"
	"ndjq/task"
)

// pieces advances a task with the same number until it ends, and returns the number of outputs and of calls.
func pieces(t *testing.T, x args, a *task.Task, count int) (outs, calls int) {
	t.Helper()
	for calls = range x.untilEnd(t, a) {
		outs += len(a.Advance(count))
		if outs > x.fuel {
			t.Fatalf("%d outputs by %d visits, %s", outs, count, show(nil, a))
		}
	}
	return outs, calls
}

// With the greatest fuel, a task may be advanced by single visits.
func TestP16_2GreatestFuel(t *testing.T) {
	const fuel = api.MaxFuel
	for _, x := range []struct {
		text string
		outs int
	}{
		{"def f: f; f", 0}, {"def f: 1, f; f", 33333}, {"def f: (1, 2), f; f", 39999}, {"def f: 1 + f; f", 0}, {"repeat(.)", 16666}, {"last(repeat(.))", 0},
	} {
		arguments := textArgs(t, x.text, "0", fuel)
		for _, count := range []int{1, 2, 3, 999, fuel/2 + 1, fuel - 1, fuel, fuel + 1} {
			a := arguments.task(t)
			outs, calls := pieces(t, arguments, a, count)
			if got := show(nil, a); outs != x.outs || calls != (fuel+count-1)/count || got != "@100000 .." {
				t.Errorf("%s by %d visits: %d outputs in %d calls, %s, not %d", x.text, count, outs, calls, got, x.outs)
			}
		}
	}
}

// As many levels of nesting as the document names are evaluated in pieces.
func TestP16_2LevelsOfNesting(t *testing.T) {
	const levels = 1<<16 - 1
	one := literal(num(1))
	for _, x := range []struct {
		what  string
		wrap  func(f api.Filter) api.Filter
		inner api.Filter
		want  string
	}{
		{"neg", func(f api.Filter) api.Filter { return n(api.OpNeg, f) }, one, "@65536 done"},
		{"try", func(f api.Filter) api.Filter { return n(api.OpTry, f) }, api.Filter{Op: api.OpCall, Text: "error"}, "@65536 done"},
		{"comma", func(f api.Filter) api.Filter { return n(api.OpComma, f, one) }, one, "@100000 .."},
		{"array", func(f api.Filter) api.Filter { return n(api.OpArray, f) }, one, `@65536 !"limit exceeded"`},
		{"pipe", func(f api.Filter) api.Filter { return n(api.OpPipe, dot, f) }, one, "@100000 .."},
	} {
		f := x.inner
		for range levels {
			f = x.wrap(f)
		}
		for _, count := range []int{1, 1000, levels} {
			arguments := args{f: f, fuel: api.MaxFuel}
			a := arguments.task(t)
			pieces(t, arguments, a, count)
			if got := show(nil, a); got != x.want {
				t.Errorf("%d levels of %s by %d visits: %s, not %s", levels, x.what, count, got, x.want)
			}
		}
	}
}
