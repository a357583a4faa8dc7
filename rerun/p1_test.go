package rerun_test

import (
	"slices"
	"testing"

	"rerun/api"
	"rerun/rerun"
)

var edgeNumbers = []int{least, least + 1, -1, 0, 1, 2, 3, 4, 11, 12, 16, 17, 500, greatest}

func edgeSchedules() [][]int {
	return [][]int{
		nil, {}, {0}, {-1}, {1}, {3}, {4}, {63}, {64}, {least}, {greatest}, {0, greatest, 0},
		times(500, 0), times(501, 0), times(501, -1), times(100000, greatest), repeated(250, 0, 1),
	}
}

func edgePrograms() []api.Program {
	return []api.Program{
		{}, program(), program(nil), program(code()), program(nil, nil, nil, nil), program(nil, nil, nil, nil, nil),
		program(slices.Repeat([][]api.Ins{grow()}, 1000)...),
		program(longThread(16, set(0, 1))), program(longThread(17, set(0, 1))), program(longThread(100000, set(0, 1))),
		program(grow(), grow()), program(code(jump(0, 0)), code(jump(0, 0))), program(code(lock(0), lock(0))),
		program(grow(), longThread(17, set(0, 1))), program(code(assert(0))), program(code(div(0, 0))), program(code(unlock(2))),
	}
}

// callAll makes every call; a panic in one of them ends the test.
func callAll(t *testing.T, p api.Program, a, b []int, n int, text string) {
	t.Helper()
	rerun.Check(p)
	r, e := rerun.Replay(p, a)
	if e != api.OK && !isNothing(r) {
		t.Errorf("P1: Replay(%v, %v): beside the error %d: %v", p, a, e, r)
	}
	bytes, e := rerun.Encode(api.Artifact{Program: p, Schedule: a, Verdict: api.Verdict{Kind: n, Thread: n, At: n}})
	if e != api.OK && bytes != "" {
		t.Errorf("P1: Encode: beside the error %d: %q", e, bytes)
	}
	artifact, e := rerun.Decode(text)
	if e != api.OK && (len(artifact.Program.Threads) != 0 || len(artifact.Schedule) != 0 || artifact.Verdict != api.Verdict{}) {
		t.Errorf("P1: Decode(%q): beside the error %d: %v", text, e, artifact)
	}
	printed, e := rerun.Print(a)
	if e != api.OK && printed != "" {
		t.Errorf("P1: Print(%v): beside the error %d: %q", a, e, printed)
	}
	parsed, _, e := rerun.Parse(text)
	if e != api.OK && len(parsed) != 0 {
		t.Errorf("P1: Parse(%q): beside the error %d: %v", text, e, parsed)
	}
	form, e := rerun.Form(p, a)
	if e != api.OK && len(form) != 0 {
		t.Errorf("P1: Form(%v, %v): beside the error %d: %v", p, a, e, form)
	}
	same, e := rerun.Same(p, a, b)
	if e != api.OK && same {
		t.Errorf("P1: Same(%v, %v, %v): true beside the error %d", p, a, b, e)
	}
	short, runs, e := rerun.Shorten(p, a, min(n, 20))
	if e != api.OK && (len(short) != 0 || runs != 0) {
		t.Errorf("P1: Shorten(%v, %v): beside the error %d: %v, %d", p, a, e, short, runs)
	}
}

func TestP1NoCallPanics(t *testing.T) {
	texts := []string{"", "0", "0*3 1", "RR\x01", "\xff\xff\xff", " ", "99999999999999999999*9"}
	k := 0
	for _, p := range edgePrograms() {
		for _, a := range edgeSchedules() {
			callAll(t, p, a, edgeSchedules()[k%len(edgeSchedules())], edgeNumbers[k%len(edgeNumbers)], texts[k%len(texts)])
			k++
		}
	}
}

// Every instruction of edge numbers, alone and behind others: Check and Replay
// agree on it, and Replay refuses it with nothing or runs it.
func TestP1AnyInstruction(t *testing.T) {
	schedule := repeated(3, 0, 1)
	for _, op := range edgeNumbers {
		for _, a := range edgeNumbers {
			for _, b := range edgeNumbers {
				for _, n := range edgeNumbers {
					in := api.Ins{Op: op, A: a, B: b, N: n}
					for _, p := range []api.Program{program(code(in)), program(grow(), code(set(0, 1), in))} {
						e := rerun.Check(p)
						r, f := rerun.Replay(p, schedule)
						if e != f || e != api.OK && !isNothing(r) {
							t.Fatalf("P1: %v: Check %d, Replay %d, %v", in, e, f, r)
						}
					}
				}
			}
		}
	}
}

func TestP1FirstErrorIsTold(t *testing.T) {
	bad := []api.Program{
		{}, program(nil, nil, nil, nil, nil), program(longThread(17, set(0, 1))),
		program(code(api.Ins{})), program(grow(), code(api.Ins{Op: 12})), program(grow(), code(set(4, 0))),
	}
	for _, p := range bad {
		for _, s := range [][]int{nil, {-1}, times(500, 0), times(501, 0), times(1000, greatest)} {
			r, e := rerun.Replay(p, s)
			if e != api.ErrProgram || !isNothing(r) {
				t.Errorf("P1: Replay(%v, %d numbers): %v, %d, want nothing and ErrProgram", p, len(s), r, e)
			}
		}
	}
	for _, s := range [][]int{times(501, 0), times(501, -1), times(5000, greatest)} {
		r, e := rerun.Replay(program(grow(), grow()), s)
		if e != api.ErrArg || !isNothing(r) {
			t.Errorf("P1: Replay(%d numbers): %v, %d, want nothing and ErrArg", len(s), r, e)
		}
	}
}

// What a call answers hangs on its arguments alone: not on calls before, not
// on who else calls, not on spare room.
func TestP1AnswersHangOnArguments(t *testing.T) {
	p, s := program(grow(), grow()), []int{0, 1, 0, 0, 0, 1, 1, 1}
	want := mustReplay(t, p, s)
	for _, q := range edgePrograms() {
		rerun.Replay(q, []int{0, 0, 0})
		if got := mustReplay(t, p, s); !equalResults(got, want) {
			t.Fatalf("P1: behind a run of %v: %v, want %v", q, got, want)
		}
	}
	roomy := append(make([]int, 0, 1000), s...)
	if got := mustReplay(t, p, roomy); !equalResults(got, want) {
		t.Errorf("P1: with spare room: %v, want %v", got, want)
	}
	answers := make(chan api.Result)
	for range 8 {
		go func() {
			r, _ := rerun.Replay(p, s)
			answers <- r
		}()
	}
	for range 8 {
		if got := <-answers; !equalResults(got, want) {
			t.Errorf("P1: side by side with others: %v, want %v", got, want)
		}
	}
}
