package rerun_test

import (
	"testing"

	"rerun/api"
	"rerun/rerun"
)

type replayCase struct {
	name string
	p    api.Program
	s    []int
	want api.Result
}

func result(v api.Verdict, s []api.Step, vars [4]int, regs ...[4]int) api.Result {
	return api.Result{Verdict: v, Steps: s, Vars: vars, Regs: regs}
}

func runReplayCases(t *testing.T, cases []replayCase) {
	t.Helper()
	for _, c := range cases {
		got, e := rerun.Replay(c.p, c.s)
		if e != api.OK || !equalResults(got, c.want) {
			t.Errorf("P3: %s: %+v, error %d, want %+v", c.name, got, e, c.want)
		}
	}
}

func TestP3Examples(t *testing.T) {
	p := program(grow(), grow())
	runReplayCases(t, []replayCase{
		{"one behind the other", p, []int{0, 0, 0, 0, 1, 1, 1, 1},
			result(verdict(api.Clean), steps(0, 0, 0, 1, 0, 2, 0, 3, 1, 0, 1, 1, 1, 2, 1, 3), [4]int{2}, [4]int{1, 1}, [4]int{2, 1})},
		{"a lost update", p, []int{0, 1, 0, 0, 0, 1, 1, 1},
			result(verdict(api.Clean), steps(0, 0, 1, 0, 0, 1, 0, 2, 0, 3, 1, 1, 1, 2, 1, 3), [4]int{1}, [4]int{1, 1}, [4]int{1, 1})},
		{"wrong", p, []int{0, 0, 2}, result(wrong(2), steps(0, 0, 0, 1), [4]int{}, [4]int{0, 1}, [4]int{})},
		{"open", p, []int{0}, result(verdict(api.Open), steps(0, 0), [4]int{}, [4]int{}, [4]int{})},
	})
}

func TestP3EachInstruction(t *testing.T) {
	clean := verdict(api.Clean)
	one := func(n int) (s []api.Step) {
		for i := range n {
			s = append(s, api.Step{At: i})
		}
		return s
	}
	runReplayCases(t, []replayCase{
		{"Set", program(code(set(0, 5), set(1, least), set(2, greatest), set(3, -1), set(0, 6))), times(5, 0), result(clean, one(5), [4]int{}, [4]int{6, least, greatest, -1})},
		{"Load and Store", program(code(set(3, 7), store(1, 3), load(0, 1), store(3, 0), load(2, 2), load(3, 0))), times(6, 0), result(clean, one(6), [4]int{0, 7, 0, 7}, [4]int{7, 0, 0, 0})},
		{"Add", program(code(set(1, 5), set(2, -8), add(1, 2), add(2, 2))), times(4, 0), result(clean, one(4), [4]int{}, [4]int{0, -3, -16})},
		{"Add wraps", program(code(set(0, greatest), set(1, 1), add(0, 1), set(2, least), set(3, -1), add(2, 3))), times(6, 0), result(clean, one(6), [4]int{}, [4]int{least, 1, greatest, -1})},
		{"Sub", program(code(set(1, 5), set(2, 8), sub(1, 2), sub(2, 2))), times(4, 0), result(clean, one(4), [4]int{}, [4]int{0, -3, 0})},
		{"Sub wraps", program(code(set(0, least), set(1, 1), sub(0, 1), set(3, least), sub(2, 3))), times(5, 0), result(clean, one(5), [4]int{}, [4]int{greatest, 1, least, least})},
		{"Mul", program(code(set(1, 5), set(2, -8), mul(1, 2), mul(2, 2), mul(3, 2))), times(5, 0), result(clean, one(5), [4]int{}, [4]int{0, -40, 64})},
		{"Mul wraps", program(code(set(0, 1<<32), mul(0, 0), set(1, least), set(2, -1), mul(1, 2), set(3, greatest), mul(3, 3))), times(7, 0), result(clean, one(7), [4]int{}, [4]int{0, least, -1, 1})},
		{"Div", program(code(set(0, 7), set(1, 2), div(0, 1), set(2, 0), div(2, 1), div(1, 1))), times(6, 0), result(clean, one(6), [4]int{}, [4]int{3, 1, 0})},
		{"Div towards 0", program(code(set(0, 7), set(1, -2), div(0, 1), set(2, -7), set(3, 2), div(2, 3))), times(6, 0), result(clean, one(6), [4]int{}, [4]int{-3, -2, -3, 2})},
		{"Div, both below 0", program(code(set(0, -7), set(1, -2), div(0, 1), set(2, -1), div(2, 1))), times(5, 0), result(clean, one(5), [4]int{}, [4]int{3, -2, 0})},
		{"the least number by -1", program(code(set(0, least), set(1, -1), div(0, 1))), times(3, 0), result(clean, one(3), [4]int{}, [4]int{least, -1})},
		{"others by -1 and the least number", program(code(set(0, greatest), set(1, -1), div(0, 1), set(2, least), set(3, least), div(2, 3), div(1, 3))), times(7, 0), result(clean, one(7), [4]int{}, [4]int{-greatest, 0, 1, least})},
		{"Div by 0", program(code(set(0, 5), set(3, 9), store(1, 3), div(0, 1), store(0, 0))), times(5, 0), result(failed(0, 3), one(4), [4]int{0, 9}, [4]int{5, 0, 0, 9})},
		{"0 by 0", program(code(div(2, 2))), times(1, 0), result(failed(0, 0), one(1), [4]int{}, [4]int{})},
		{"Assert", program(code(set(0, 1), assert(0), set(1, -1), assert(1), set(2, least), assert(2))), times(6, 0), result(clean, one(6), [4]int{}, [4]int{1, -1, least})},
		{"Assert of 0", program(code(set(0, 1), assert(0), assert(3), set(2, 2))), times(4, 0), result(failed(0, 2), one(3), [4]int{}, [4]int{1})},
		{"Lock and Unlock", program(code(lock(0), lock(1), lock(2), unlock(1), lock(1), unlock(0), unlock(2), unlock(1))), times(8, 0), result(clean, one(8), [4]int{}, [4]int{})},
	})
}

func TestP3Jumps(t *testing.T) {
	loop := code(set(0, 2), set(1, 1), sub(0, 1), jump(0, 5), jump(2, 2), store(3, 1))
	runReplayCases(t, []replayCase{
		{"to its thread's length", program(code(jump(0, 3), set(1, 1), set(2, 2))), []int{0}, result(verdict(api.Clean), steps(0, 0), [4]int{}, [4]int{})},
		{"to its thread's length, then once more", program(code(jump(0, 3), set(1, 1), set(2, 2))), []int{0, 0}, result(wrong(1), steps(0, 0), [4]int{}, [4]int{})},
		{"to the next one", program(code(jump(0, 1), set(1, 1))), []int{0, 0}, result(verdict(api.Clean), steps(0, 0, 0, 1), [4]int{}, [4]int{0, 1})},
		{"not taken", program(code(set(0, 1), jump(0, 3), set(1, 1))), []int{0, 0, 0}, result(verdict(api.Clean), steps(0, 0, 0, 1, 0, 2), [4]int{}, [4]int{1, 1})},
		{"not taken below 0", program(code(set(0, -1), jump(0, 0), set(1, 1))), []int{0, 0, 0}, result(verdict(api.Clean), steps(0, 0, 0, 1, 0, 2), [4]int{}, [4]int{-1, 1})},
		{"not taken, the last one", program(code(set(3, 1), jump(3, 0))), []int{0, 0}, result(verdict(api.Clean), steps(0, 0, 0, 1), [4]int{}, [4]int{0, 0, 0, 1})},
		{"to itself", program(code(jump(0, 0))), times(4, 0), result(verdict(api.Open), steps(0, 0, 0, 0, 0, 0, 0, 0), [4]int{}, [4]int{})},
		{"back, twice round", program(loop), times(8, 0), result(verdict(api.Clean), steps(0, 0, 0, 1, 0, 2, 0, 3, 0, 4, 0, 2, 0, 3, 0, 5), [4]int{0, 0, 0, 1}, [4]int{0, 1})},
		{"of thread 1 alone", program(grow(), code(jump(0, 2), assert(0), set(1, 3))), []int{1, 0, 1}, result(verdict(api.Open), steps(1, 0, 0, 0, 1, 2), [4]int{}, [4]int{}, [4]int{0, 3})},
	})
}

func TestP3Locks(t *testing.T) {
	var r [4]int
	cross := program(code(lock(0), lock(1)), code(lock(1), lock(0)))
	runReplayCases(t, []replayCase{
		{"each waits for the other", cross, []int{0, 1}, result(verdict(api.Stuck), steps(0, 0, 1, 0), r, r, r)},
		{"who waits is not ready", cross, []int{0, 1, 1}, result(wrong(2), steps(0, 0, 1, 0), r, r, r)},
		{"one done, one waits", cross, []int{0, 0}, result(verdict(api.Stuck), steps(0, 0, 0, 1), r, r, r)},
		{"its own lock", program(code(lock(2), lock(2))), []int{0}, result(verdict(api.Stuck), steps(0, 0), r, r)},
		{"its own lock again", program(code(lock(2), lock(2))), []int{0, 0}, result(wrong(1), steps(0, 0), r, r)},
		{"its own lock, others are ready", program(code(lock(2), lock(2)), grow()), []int{0}, result(verdict(api.Open), steps(0, 0), r, r, r)},
		{"its own lock, others are done", program(nil, code(lock(2), lock(2)), nil), []int{1}, result(verdict(api.Stuck), steps(1, 0), r, r, r, r)},
		{"another lock", program(code(lock(0)), code(lock(1)), code(lock(2))), []int{2, 0, 1}, result(verdict(api.Clean), steps(2, 0, 0, 0, 1, 0), r, r, r, r)},
		{"free again", program(code(lock(1), unlock(1)), code(lock(1))), []int{0, 0, 1}, result(verdict(api.Clean), steps(0, 0, 0, 1, 1, 0), r, r, r)},
		{"a lock stays with a thread that is done", program(code(lock(1)), code(lock(1))), []int{0}, result(verdict(api.Stuck), steps(0, 0), r, r, r)},
		{"only its own lock is freed", program(code(lock(0), lock(1), unlock(0)), code(lock(1))), []int{0, 0, 0, 1}, result(wrong(3), steps(0, 0, 0, 1, 0, 2), r, r, r)},
		{"Unlock of nobody's", program(code(set(0, 1), unlock(0))), []int{0, 0, 0}, result(failed(0, 1), steps(0, 0, 0, 1), r, [4]int{1})},
		{"Unlock of another's", program(code(lock(0)), nil, nil, code(set(0, 1), unlock(0), set(1, 1))), []int{0, 3, 3, 3}, result(failed(3, 1), steps(0, 0, 3, 0, 3, 1), r, r, r, r, [4]int{1})},
		{"Unlock of thread 0's by 1", program(code(lock(2)), code(unlock(2))), []int{0, 1}, result(failed(1, 0), steps(0, 0, 1, 0), r, r, r)},
		{"Unlock of thread 1's by 0", program(code(unlock(2)), code(lock(2))), []int{1, 0}, result(failed(0, 0), steps(1, 0, 0, 0), r, r, r)},
		{"Unlock twice", program(code(lock(0), unlock(0), unlock(0))), []int{0, 0, 0}, result(failed(0, 2), steps(0, 0, 0, 1, 0, 2), r, r)},
		{"who waits for Unlock may go on", program(code(lock(0), unlock(0), lock(0))), []int{0, 0, 0}, result(verdict(api.Clean), steps(0, 0, 0, 1, 0, 2), r, r)},
	})
}

func TestP3Verdicts(t *testing.T) {
	var r [4]int
	two := program(grow(), grow())
	short := program(code(assert(0)), code(set(0, 1)))
	runReplayCases(t, []replayCase{
		{"no instruction, no number", program(nil), nil, result(verdict(api.Clean), nil, r, r)},
		{"four empty threads", program(nil, code(), nil, code()), []int{}, result(verdict(api.Clean), nil, r, r, r, r, r)},
		{"no number", two, nil, result(verdict(api.Open), nil, r, r, r)},
		{"an empty thread is not ready", program(nil, grow()), []int{0}, result(wrong(0), nil, r, r, r)},
		{"below 0", two, []int{-1}, result(wrong(0), nil, r, r, r)},
		{"far below 0", two, []int{1, least, 0}, result(wrong(1), steps(1, 0), r, r, r)},
		{"far above", two, []int{1, greatest, 0}, result(wrong(1), steps(1, 0), r, r, r)},
		{"as many as there are threads", two, []int{2}, result(wrong(0), nil, r, r, r)},
		{"a thread of MaxThreads that is not there", program(grow()), []int{0, 3}, result(wrong(1), steps(0, 0), r, r)},
		{"a thread that is done", program(code(set(0, 1)), grow()), []int{0, 1, 0, 1}, result(wrong(2), steps(0, 0, 1, 0), r, [4]int{1}, r)},
		{"all are done, and a number more", program(code(set(0, 1))), []int{0, 0}, result(wrong(1), steps(0, 0), r, [4]int{1})},
		{"what stands behind a failure is not looked at", short, []int{1, 0, -1, 99}, result(failed(0, 0), steps(1, 0, 0, 0), r, r, [4]int{1})},
		{"what stands behind a wrong one is not looked at", short, []int{1, 1, 0, 0}, result(wrong(1), steps(1, 0), r, r, [4]int{1})},
		{"a failure in the last number", short, []int{0}, result(failed(0, 0), steps(0, 0), r, r, r)},
		{"a failure as all are done", program(code(assert(0))), []int{0}, result(failed(0, 0), steps(0, 0), r, r)},
		{"the place of a failure in thread 3", program(nil, nil, grow(), code(set(2, 4), div(2, 0))), []int{2, 3, 2, 3, 2}, result(failed(3, 1), steps(2, 0, 3, 0, 2, 1, 3, 1), r, r, r, [4]int{0, 1}, [4]int{0, 0, 4})},
	})
}

// A schedule of MaxSchedule numbers is run to its end, one more is refused.
func TestP3LongSchedules(t *testing.T) {
	count := program(code(set(1, 1), add(0, 1), store(0, 0), jump(2, 1)))
	r := mustReplay(t, count, times(500, 0))
	if r.Verdict != verdict(api.Open) || len(r.Steps) != 500 || r.Vars != [4]int{166} || r.Steps[499] != (api.Step{At: 1}) || r.Regs[0] != [4]int{167, 1} {
		t.Errorf("P3: 500 numbers: %v, %d steps, %v, %v", r.Verdict, len(r.Steps), r.Vars, r.Regs)
	}
	if r := mustReplay(t, count, append(times(499, 0), 1)); r.Verdict != wrong(499) || len(r.Steps) != 499 {
		t.Errorf("P3: wrong at the last of 500: %v", r.Verdict)
	}
	for _, s := range [][]int{times(501, 0), times(501, 7), times(502, 0)} {
		if r, e := rerun.Replay(count, s); e != api.ErrArg || !isNothing(r) {
			t.Errorf("P3: %d numbers: %v, %d, want ErrArg", len(s), r, e)
		}
		if r, e := rerun.Replay(program(nil), s); e != api.ErrArg || !isNothing(r) {
			t.Errorf("P3: %d numbers for a program that is done: %v, %d, want ErrArg", len(s), r, e)
		}
	}
}
