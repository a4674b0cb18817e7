package eval_test

import (
	"math"
	"testing"

	"ndjq/api"
	"ndjq/eval"
)

// Layer 16 states what pieces an evaluation has. A machine of this layer is one that it can hold.
func TestMachine(t *testing.T) {
	m, e := eval.Begin(core(t, "1, error, 2"), nil, nil, num(5), 100)
	if end, err := m.Outcome(); e != api.OK || m.Ended() || m.Made() != 0 || end != api.EndDone || !identical(err, api.Value{}) {
		t.Errorf("at first: %d visits, end %d, error %d", m.Made(), end, e)
	}
	for i, want := range []string{"", "", "1"} {
		if got := show(api.Outcome{Outs: m.Advance(1)}); got != want || m.Ended() || m.Made() != i+1 {
			t.Errorf("piece %d: %s, %d visits, not %s", i+1, got, m.Made(), want)
		}
	}
	outs := m.Advance(1)
	if end, err := m.Outcome(); len(outs) != 0 || !m.Ended() || m.Made() != 4 || end != api.EndError || !identical(err, num(5)) {
		t.Errorf("at last: %d visits, end %d", m.Made(), end)
	}
}

// A machine that is nil or zero, as that of an error, has ended.
func TestNoMachine(t *testing.T) {
	failed, e := eval.Begin(variable("x"), nil, nil, num(5), 100)
	if e != api.ErrInvalid {
		t.Errorf("Begin of a filter that is not closed returns the error %d", e)
	}
	for i, m := range []*eval.Machine{nil, {}, &failed} {
		for _, count := range []int{1, 0, -1, math.MaxInt, math.MinInt} {
			outs := m.Advance(count)
			if end, err := m.Outcome(); len(outs) != 0 || !m.Ended() || m.Made() != 0 || end != api.EndDone || !identical(err, api.Value{}) {
				t.Errorf("machine %d: %d outputs, %d visits, end %d", i, len(outs), m.Made(), end)
			}
		}
	}
}
