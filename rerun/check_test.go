package rerun_test

import (
	"slices"
	"testing"

	"rerun/api"
	"rerun/rerun"
)

// span: from the first to the last number that may stand somewhere.
type span struct{ low, high int }

var (
	none      = span{0, 0}
	registers = span{0, 3}
	variables = span{0, 3}
	locks     = span{0, 2}
	whole     = span{least, greatest}
)

func (s span) has(x int) bool { return x >= s.low && x <= s.high }

// allowed: the document's table, for a thread of that length.
func allowed(op, length int) (a, b, n span, ok bool) {
	switch op {
	case 1:
		return registers, none, whole, true
	case 2:
		return registers, variables, none, true
	case 3:
		return variables, registers, none, true
	case 4, 5, 6, 7:
		return registers, registers, none, true
	case 8:
		return registers, none, span{0, length}, true
	case 9, 10:
		return locks, none, none, true
	case 11:
		return registers, none, none, true
	}
	return none, none, none, false
}

// The whole table: each Op with each of A, B and N from below its edges to
// above them, in threads of several lengths, at each place of them.
func TestP3CheckTable(t *testing.T) {
	numbers := []int{least, -2, -1, 0, 1, 2, 3, 4, 5, 15, 16, 17, greatest}
	for _, length := range []int{1, 2, 4, 16} {
		for op := -1; op <= 13; op++ {
			for _, x := range numbers {
				for _, y := range numbers {
					for _, z := range numbers {
						checkIns(t, api.Ins{Op: op, A: x, B: y, N: z}, length)
					}
				}
			}
		}
	}
}

func checkIns(t *testing.T, in api.Ins, length int) {
	t.Helper()
	a, b, n, ok := allowed(in.Op, length)
	want := api.ErrProgram
	if ok && a.has(in.A) && b.has(in.B) && n.has(in.N) {
		want = api.OK
	}
	for _, place := range []int{0, length - 1} {
		c := longThread(length, set(0, 0))
		c[place] = in
		if e := rerun.Check(program(c)); e != want {
			t.Fatalf("P3: Check: %v at %d of %d: %d, want %d", in, place, length, e, want)
		}
		if e := rerun.Check(program(nil, grow(), c, grow())); e != want {
			t.Fatalf("P3: Check: %v at %d of %d, in thread 2: %d, want %d", in, place, length, e, want)
		}
	}
}

func TestP3CheckSizes(t *testing.T) {
	for n := range 20 {
		want := api.OK
		if n < 1 || n > 4 {
			want = api.ErrProgram
		}
		for _, c := range [][]api.Ins{nil, {}, grow(), longThread(16, set(3, -1))} {
			if e := rerun.Check(program(slices.Repeat([][]api.Ins{c}, n)...)); e != want {
				t.Errorf("P3: Check: %d threads: %d, want %d", n, e, want)
			}
		}
	}
	for n := range 40 {
		want := api.OK
		if n > 16 {
			want = api.ErrProgram
		}
		for _, p := range []api.Program{program(longThread(n, assert(0))), program(nil, grow(), grow(), longThread(n, assert(0)))} {
			if e := rerun.Check(p); e != want {
				t.Errorf("P3: Check: a thread of %d: %d, want %d", n, e, want)
			}
		}
	}
}

// A Jump's bound is the length of its own thread, not of another one.
func TestP3CheckJumpInItsThread(t *testing.T) {
	for k, c := range []struct {
		p    api.Program
		want api.Errno
	}{
		{program(code(jump(0, 2)), grow()), api.ErrProgram},
		{program(grow(), code(jump(0, 2))), api.ErrProgram},
		{program(grow(), code(jump(0, 1))), api.OK},
		{program(code(jump(0, 16)), longThread(16, set(0, 0))), api.ErrProgram},
		{program(code(set(0, 0), jump(3, 2)), nil), api.OK},
	} {
		if e := rerun.Check(c.p); e != c.want {
			t.Errorf("P3: Check: line %d: %d, want %d", k, e, c.want)
		}
	}
}
