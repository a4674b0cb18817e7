package task_test

import (
	"fmt"
	"math/rand"
	"slices"
	"strings"
	"testing"

	"ndjq/api"
	"ndjq/desugar"
	"ndjq/eval"
	"ndjq/fparse"
	"ndjq/jsonparse"
	"ndjq/jsonwrite"
	"ndjq/task"
)

// model states the chapter a second time: the outputs before a pause behind m visits are those of an evaluation with the fuel m.
type model struct {
	args
	made, yielded int
	ended         bool
	end           int
	err           api.Value
}

func newModel(x args) *model { return &model{args: x} }

func (m *model) advance(n int) []api.Value {
	if m.ended || n < 1 {
		return nil
	}
	fuel := m.made + min(n, m.fuel-m.made)
	o, _ := eval.Eval(m.f, m.names, m.values, m.v, fuel)
	m.made, _ = eval.Visits(m.f, m.names, m.values, m.v, fuel)
	if o.End != api.EndFuel || fuel == m.fuel {
		m.ended, m.end, m.err = true, o.End, o.Err
	}
	outs := o.Outs[m.yielded:]
	m.yielded = len(o.Outs)
	return outs
}

// piece returns what show returns behind a call of Advance.
func (m *model) piece(n int) string {
	var l []string
	for _, v := range m.advance(n) {
		l = append(l, jsonwrite.Text(v))
	}
	l = append(l, fmt.Sprint("@", m.made))
	if m.ended {
		l = append(l, showEnd(m.end, m.err))
	}
	return strings.Join(l, " ")
}

// expectStated expects the pieces of the model for the numbers, by turns, until the task ends, and some more.
func expectStated(t *testing.T, x args, numbers ...int) {
	t.Helper()
	if slices.Max(numbers) < 1 {
		t.Fatalf("no task ends with pieces of %v visits", numbers)
	}
	a, m := x.task(t), newModel(x)
	for i, more := 0, 0; more < 3; i++ {
		count := numbers[i%len(numbers)]
		if got, want := show(a.Advance(count), a), m.piece(count); got != want {
			t.Errorf("%v: piece %d of %v: %s, not %s", x, i+1, numbers, brief(got), brief(want))
			return
		}
		if m.ended {
			more++
		}
	}
}

// expectEval expects that the pieces together are the evaluation.
func expectEval(t *testing.T, x args, next func() int) {
	t.Helper()
	a := x.task(t)
	var outs []api.Value
	for range x.untilEnd(t, a) {
		outs = append(outs, a.Advance(next())...)
	}
	o, _ := eval.Eval(x.f, x.names, x.values, x.v, x.fuel)
	visits, _ := eval.Visits(x.f, x.names, x.values, x.v, x.fuel)
	end, err := a.Outcome()
	if !slices.EqualFunc(outs, o.Outs, identical) || end != o.End || !identical(err, o.Err) || a.Made() != visits {
		t.Errorf("%v: %s, not %d outputs, %s and %d visits", x, brief(show(outs, a)), len(o.Outs), showEnd(o.End, o.Err), visits)
	}
}

// nodes are texts whose evaluation ends, with every kind of node.
func nodes() []string {
	return []string{
		".", "7", "[]", "[.[]]", "{}", "{a: (1, 2), b: .[]}", "-(1, 2)", ".[0, 1]", "(., .)[0:(1, 2)]", ".[]", "(., .)[]", ".[] | .[]?", ".[][]", "(1, 2) | ., 3", "1, 2, 3", "(null, 1, false, 2) // 3", "(null, error) // (3, 4)", "(1, error) // 2", "(true, false) or (1, null)", "(true, false) and (1, null)", "(1, 2) * (3, 4)", "if (true, false) then (1, 2) else 3 end",
		"try (1, error, 2) catch (., 3)", "try (1, error(5), 2)", "(try (1, 2) catch 3) | error", "try ((try 1 catch 2) | error) catch [.]", "reduce .[] as $x (0, 1; [., $x])", "reduce (1, 2) as $x (0; empty)", "foreach .[] as $x (0, 1; $x, .; ., [.])", "label $f | 1, break $f, 2", "(label $f | (label $g | 1, break $f), 2), 3", "[label $f | .[] | ., break $f]", "(1, 2) as $x | (3, 4) as $y | [$x, $y]",
		"def f: ., 1; f | f", "def f(g; $a): g, $a; f(.[]; 1, 2)", "def f: if . > 3 then . else (. + 1 | f), . end; 0 | f", "def f(g): label $l | g, 7; label $l | f(1, break $l), 8", "empty", "error", "error(1, 2)", "not, length, type", "has(0, 5)", "setpath([0], [1]; 8, 9)", "path(.[])", "path(.[0], .[1][0])", "path(1)", "path(..)", "path(first(.[]))", "path(try error(1) catch .)", "path(getpath([1], [2]) | .[0]?)", "path(reduce (0, 1) as $i (.; .[1]?))", "path(foreach (1, 0) as $i (.; .[$i]; ., .[0]?))", "path(.[] // .)", "path(if . then .[] else . end)", "path(label $f | .[], break $f)", "path(def f(g; $a): g, .[$a]; f(.[0]; 1, 2))", "path(. as $x | .[0, 1])",
		"map(., 1)", "[range(4)], [range(2; 4)]", "[limit(3; repeat(1))]", "first(.[])", ".[1] |= [.]", ".[] += 1", "try (.[] += 1) catch .", "del(.[0, 2])", "[..]", "[paths]", "walk(if . == null then 0 else . end)", "any(. == null), all(.)", "sort_by(length)", "[while(length > 0; .[1:])]", "until(length == 0; .[1:])", "to_entries | map(.value)", "[[1, 2], [3]] | [combinations]", "isempty(1, error), last(1, 2), nth(1; .[])",
	}
}

// Every number of visits, every place of the first pause, and every fuel.
func TestP16_2EveryPause(t *testing.T) {
	for _, text := range nodes() {
		for _, input := range []string{"[1,[2],null]", `{"a":[5]}`, "3"} {
			x := textArgs(t, text, input, 1000)
			visits, _ := eval.Visits(x.f, nil, nil, x.v, x.fuel)
			if visits == x.fuel {
				t.Errorf("%v does not end", x)
			}
			for count := 1; count <= visits+1; count += 1 + count/20 {
				expectStated(t, x, count)
				expectStated(t, x, count, visits+1)
			}
			for x.fuel = 0; x.fuel <= visits+1; x.fuel += 1 + x.fuel/20 {
				expectStated(t, x, 1, 3)
				expectStated(t, x, max(1, x.fuel))
				expectStated(t, x, max(1, x.fuel-1), 1)
			}
		}
	}
}

// An evaluation within definitions, arrays and others that never ends is continued, too.
func TestP16_2Endless(t *testing.T) {
	for _, s := range []string{"def f: f; f", "def f: ., f; f", "def f: 1 + f; f", "def f: f | f; f", "def f: try f catch f; f", "def f: f // f; f", "def f: [f]; f", "def f: (., 1) | f; f", "def f: reduce f as $x (f; f); f", "def f(g): f(g | g); f(.)", "def f($a): $a, f($a + 1); f(0)", "def f: label $l | f; f", "def f: {a: f}; f", "def f: try error(1) catch f; f", "path(def f: ., f; f)", "path(def f: f; f)", "repeat(.)", "range(0; 1000)", "foreach range(0; 1000) as $x (0; . + $x)", "last(repeat(1))"} {
		for _, fuel := range []int{0, 1, 2, 7, 60, 200} {
			x := textArgs(t, s, "1", fuel)
			for _, numbers := range [][]int{{1}, {2}, {7}, {fuel}, {fuel - 1, 1}, {0, 3}, {5, -1, 2}} {
				if slices.Max(numbers) > 0 {
					expectStated(t, x, numbers...)
				}
			}
		}
	}
}

// texts are filters in which F and G stand for others.
func texts() []string {
	return []string{
		"map(F)", "select(F)", "[..] | F", "F |= G", "F += G", "F = G", "del(F)", "[limit(2; F)]", "first(F)", "last(F)", "isempty(F)", "any(F)", "[range(3)] | F", "[while(F; G)]", "until(F; G)", "[limit(3; repeat(F))]", "with_entries(F)", "map_values(F)", "sort_by(F)", "walk(F)", "[paths]", "path(F)", "path(.[] | F)", "[F]", "F as $x | G, $x", "reduce F as $x (.; G)", "foreach F as $x (.; G; ., $x)", "try F catch G", "try F", "label $l | F, break $l, G", "def f(g): g | g; f(F)", "def f($a; g): g, $a; f(F; G)", "(F) // (G)", "if F then G else . end", "{a: (F), b: (G)}", "{(F): (G)}", "(F) + (G)", ".[(F)]", ".[(F):(G)]", "(F)[]", "(F) | (G)", "(F), (G)", "-(F)", "(F) and (G)", "(F) or (G)", "error(F)", "has(F)", "setpath(F; G)", "getpath(F)",
	}
}

// maker makes random arguments.
type maker struct{ r *rand.Rand }

func pick[T any](m maker, l []T) T { return l[m.r.Intn(len(l))] }

func (m maker) text(depth int) string {
	if depth == 0 {
		return pick(m, []string{".", ".a", ".[]", ".[0]", "1", "2", "null", `"a"`, "empty", "error", ".b", ".[]?", ".a?", "not", "length", ". == 1", ". + 1", ". < 2", "[.]", "(1, 2)", "[0]"})
	}
	return strings.NewReplacer("F", m.text(depth-1), "G", m.text(m.r.Intn(depth))).Replace(pick(m, texts()))
}

func (m maker) value() api.Value {
	return pick(m, []api.Value{{}, {Kind: api.False}, {Kind: api.True}, num(0), num(1), num(3), str("a"), str("ab"), arr(), arr(num(1), num(2)), arr(str("a"), num(0)), arr(arr(num(3)), num(4), api.Value{}), obj(nil), obj([]string{"a"}, num(1)), obj([]string{"a", "b"}, arr(num(5)), obj([]string{"a"}, num(2)))})
}

// args returns arguments with the variables $v and $w, and with literals that no text can spell.
func (m maker) args() args {
	for {
		f, _, e := fparse.Parse(m.text(1 + m.r.Intn(3)))
		if e != api.OK {
			continue
		}
		f, _, e = desugar.Core(f)
		if e != api.OK {
			continue
		}
		v := api.Filter{Op: api.OpVar, Text: pick(m, []string{"v", "w"})}
		f = n(api.OpComma, n(api.OpPipe, n(api.OpComma, literal(m.value()), v), n(api.OpTry, f)), f)
		return args{f, []string{"v", "w", "v"}, []api.Value{m.value(), m.value(), m.value()}, m.value(), pick(m, []int{300, 300, 100, m.r.Intn(30)})}
	}
}

// next returns mostly small numbers.
func (m maker) next() int {
	return pick(m, []int{0, -1, 1, 1, 2, 3, 1 + m.r.Intn(10), 1 + m.r.Intn(100)})
}

func TestP16_2Random(t *testing.T) {
	m := maker{rand.New(rand.NewSource(161))}
	ends := map[int]int{}
	several := 0
	for range 1500 {
		x := m.args()
		expectStated(t, x, m.next(), m.next(), 1+m.r.Intn(5))
		a := x.task(t)
		if outs := a.Advance(x.fuel + 1); len(outs) > 1 {
			several++
		}
		end, _ := a.Outcome()
		ends[end]++
	}
	if ends[api.EndDone] < 300 || ends[api.EndError] < 300 || ends[api.EndFuel] < 200 || several < 250 {
		t.Errorf("%v, %d tasks with several outputs", ends, several)
	}
}

// The outputs of all pieces together are those of eval.Eval, whatever the numbers are, and so is the end.
func TestConsequenceTogether(t *testing.T) {
	m := maker{rand.New(rand.NewSource(162))}
	for range 2000 {
		x := m.args()
		expectEval(t, x, m.next)
		expectEval(t, x, func() int { return 1 })
	}
	for _, text := range nodes() {
		x := textArgs(t, text, "[1,[2],null]", 1000)
		for count := 1; count < 12; count++ {
			expectEval(t, x, func() int { return count })
		}
	}
}

// A task with the fuel F ends after at most F + 1 calls of Advance(1); each of them makes one visit, but for one with the fuel 0.
func TestConsequenceCalls(t *testing.T) {
	m := maker{rand.New(rand.NewSource(163))}
	for range 2000 {
		x := m.args()
		a := x.task(t)
		calls := 0
		for ; !a.Ended() && calls <= x.fuel; calls++ {
			a.Advance(1)
			if a.Made() != min(calls+1, x.fuel) {
				t.Errorf("%v: %d visits in %d calls", x, a.Made(), calls+1)
			}
		}
		if !a.Ended() {
			t.Errorf("%v has not ended after %d calls", x, calls)
		}
	}
}

// FuzzTask runs on its seeds with go test, and goes on from them with go test -fuzz.
func FuzzTask(f *testing.F) {
	m := maker{rand.New(rand.NewSource(164))}
	for range 300 {
		f.Add(m.text(2), pick(m, []string{"null", "[1,2]", `{"a":[1,{"b":2}]}`, `"ab"`}), m.r.Intn(200), m.next(), m.next())
	}
	f.Fuzz(func(t *testing.T, text, input string, fuel, first, second int) {
		g, _, e := fparse.Parse(text)
		if e != api.OK {
			return
		}
		g, _, e = desugar.Core(g)
		v, _, ev := jsonparse.Parse(input)
		if e != api.OK || ev != api.OK {
			return
		}
		fuel = int(uint(fuel) % 500)
		if _, e := task.New(g, nil, nil, v, fuel); e != api.OK {
			return
		}
		expectStated(t, args{f: g, v: v, fuel: fuel}, first, second, 1)
	})
}
