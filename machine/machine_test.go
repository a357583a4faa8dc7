package machine

import (
	"slices"
	"testing"

	"rerun/api"
)

// A machine is made once and run many times: no run may leave anything to the next one.
func TestRunsLeaveNothingBehind(t *testing.T) {
	m := New(api.Program{Threads: [][]api.Ins{
		{{Op: api.Load, A: 0, B: 1}, {Op: api.Set, A: 1, N: 1}, {Op: api.Add, A: 0, B: 1}, {Op: api.Store, A: 1, B: 0}},
		{{Op: api.Lock, A: 2}, {Op: api.Lock, A: 2}},
		{{Op: api.Unlock, A: 2}},
	}})
	schedules := [][]int{{0, 0, 0, 0, 1}, {1, 1}, {0, 2}, {9}, nil, {0, 0, 0, 0, 1, 2}}
	var first []api.Result
	for _, s := range schedules {
		first = append(first, m.Run(s))
	}
	for k, s := range schedules {
		r := m.Run(s)
		if r.Verdict != first[k].Verdict || r.Vars != first[k].Vars || !slices.Equal(r.Steps, first[k].Steps) || !slices.Equal(r.Regs, first[k].Regs) {
			t.Errorf("schedule %v: %v, and %v the second time", s, first[k], r)
		}
	}
	if first[0].Vars != [api.Variables]int{0, 1} || first[0].Verdict.Kind != api.Open || first[5].Verdict != (api.Verdict{Kind: api.Failed, Thread: 2}) {
		t.Errorf("%v, %v", first[0], first[5])
	}
}

// The machine keeps nothing of the program that it was made of.
func TestMachineKeepsNoProgram(t *testing.T) {
	code := []api.Ins{{Op: api.Set, A: 0, N: 5}, {Op: api.Store, A: 0, B: 0}}
	m := New(api.Program{Threads: [][]api.Ins{code}})
	code[0], code[1] = api.Ins{Op: api.Set, A: 3, N: 8}, api.Ins{Op: api.Assert}
	if r := m.Run([]int{0, 0}); r.Vars != [api.Variables]int{5} || r.Verdict.Kind != api.Clean {
		t.Errorf("%v", r)
	}
}

func TestSameVerdicts(t *testing.T) {
	for _, c := range []struct {
		a, b api.Verdict
		want bool
	}{
		{api.Verdict{Kind: api.Failed, Thread: 1, At: 2}, api.Verdict{Kind: api.Failed, Thread: 1, At: 2}, true},
		{api.Verdict{Kind: api.Failed, Thread: 1, At: 2}, api.Verdict{Kind: api.Failed, Thread: 0, At: 2}, false},
		{api.Verdict{Kind: api.Failed, Thread: 1, At: 2}, api.Verdict{Kind: api.Failed, Thread: 1, At: 3}, false},
		{api.Verdict{Kind: api.Failed, At: 2}, api.Verdict{Kind: api.Wrong, At: 2}, false},
		{api.Verdict{Kind: api.Wrong, At: 2}, api.Verdict{Kind: api.Wrong, At: 2}, true},
		{api.Verdict{Kind: api.Wrong, At: 2}, api.Verdict{Kind: api.Wrong, At: 499}, true},
		{api.Verdict{Kind: api.Wrong}, api.Verdict{Kind: api.Open}, false},
		{api.Verdict{Kind: api.Clean}, api.Verdict{Kind: api.Clean}, true},
		{api.Verdict{Kind: api.Clean}, api.Verdict{Kind: api.Stuck}, false},
		{api.Verdict{Kind: api.Stuck}, api.Verdict{Kind: api.Open}, false},
	} {
		if SameVerdict(c.a, c.b) != c.want || SameVerdict(c.b, c.a) != c.want {
			t.Errorf("%v and %v: want %v", c.a, c.b, c.want)
		}
	}
}
