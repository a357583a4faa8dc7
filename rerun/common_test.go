package rerun_test

import (
	"math"
	"slices"
	"testing"

	"rerun/api"
	"rerun/rerun"
)

const (
	least    = math.MinInt
	greatest = math.MaxInt
)

func set(r, n int) api.Ins   { return api.Ins{Op: api.Set, A: r, N: n} }
func load(r, v int) api.Ins  { return api.Ins{Op: api.Load, A: r, B: v} }
func store(v, r int) api.Ins { return api.Ins{Op: api.Store, A: v, B: r} }
func add(a, b int) api.Ins   { return api.Ins{Op: api.Add, A: a, B: b} }
func sub(a, b int) api.Ins   { return api.Ins{Op: api.Sub, A: a, B: b} }
func mul(a, b int) api.Ins   { return api.Ins{Op: api.Mul, A: a, B: b} }
func div(a, b int) api.Ins   { return api.Ins{Op: api.Div, A: a, B: b} }
func jump(r, n int) api.Ins  { return api.Ins{Op: api.Jump, A: r, N: n} }
func lock(l int) api.Ins     { return api.Ins{Op: api.Lock, A: l} }
func unlock(l int) api.Ins   { return api.Ins{Op: api.Unlock, A: l} }
func assert(r int) api.Ins   { return api.Ins{Op: api.Assert, A: r} }

func code(list ...api.Ins) []api.Ins         { return list }
func program(list ...[]api.Ins) api.Program  { return api.Program{Threads: list} }
func times(n, thread int) []int              { return slices.Repeat([]int{thread}, n) }
func failed(thread, at int) api.Verdict      { return api.Verdict{Kind: api.Failed, Thread: thread, At: at} }
func wrong(at int) api.Verdict               { return api.Verdict{Kind: api.Wrong, At: at} }
func verdict(kind int) api.Verdict           { return api.Verdict{Kind: kind} }
func repeated(n int, list ...int) []int      { return slices.Repeat(list, n) }
func longThread(n int, in api.Ins) []api.Ins { return slices.Repeat([]api.Ins{in}, n) }

// grow: the variable 0 grows by 1 (the document's example).
func grow() []api.Ins { return code(load(0, 0), set(1, 1), add(0, 1), store(0, 0)) }

func steps(pairs ...int) []api.Step {
	var list []api.Step
	for i := 0; i+1 < len(pairs); i += 2 {
		list = append(list, api.Step{Thread: pairs[i], At: pairs[i+1]})
	}
	return list
}

func equalResults(a, b api.Result) bool {
	return a.Verdict == b.Verdict && slices.Equal(a.Steps, b.Steps) && a.Vars == b.Vars && slices.Equal(a.Regs, b.Regs)
}

func isNothing(r api.Result) bool {
	return r.Verdict == (api.Verdict{}) && len(r.Steps) == 0 && r.Vars == [api.Variables]int{} && len(r.Regs) == 0
}

func mustReplay(t *testing.T, p api.Program, schedule []int) api.Result {
	t.Helper()
	r, e := rerun.Replay(p, schedule)
	if e != api.OK {
		t.Fatalf("Replay(%v, %v): error %d", p, schedule, e)
	}
	return r
}

// dice is a row of numbers that is the same each time.
type dice uint64

func (d *dice) roll(n int) int {
	*d = *d*6364136223846793005 + 1442695040888963407
	return int(uint64(*d)>>33) % n
}

// shake sets a few bytes anew.
func (d *dice) shake(b []byte) {
	for range min(len(b), 1+d.roll(20)) {
		b[d.roll(len(b))] = byte(d.roll(256))
	}
}

func oneOf[T any](d *dice, list ...T) T { return list[d.roll(len(list))] }
