package rerun_test

import (
	"slices"
	"testing"

	"rerun/api"
	"rerun/rerun"
)

// shortenByWords: the document's words, by Replay alone.
func shortenByWords(t *testing.T, p api.Program, schedule []int, fuel int) ([]int, int) {
	t.Helper()
	first := mustReplay(t, p, schedule)
	end := len(first.Steps)
	if first.Verdict.Kind == api.Wrong {
		end = first.Verdict.At + 1
	}
	s := slices.Clone(schedule[:end])
	left := fuel
anew:
	for i := range s {
		if left == 0 {
			break
		}
		left--
		trial := slices.Delete(slices.Clone(s), i, i+1)
		if sameByWords(mustReplay(t, p, trial).Verdict, first.Verdict) {
			s = trial
			goto anew
		}
	}
	return s, fuel - left
}

type shortenCase struct {
	name string
	p    api.Program
	s    []int
	fuel int
	want []int
	runs int
}

func runShortenCases(t *testing.T, cases []shortenCase) {
	t.Helper()
	for _, c := range cases {
		short, runs, e := rerun.Shorten(c.p, c.s, c.fuel)
		if e != api.OK || !slices.Equal(short, c.want) || runs != c.runs {
			t.Errorf("P7: %s: Shorten with fuel %d: %v, %d runs, error %d, want %v, %d", c.name, c.fuel, short, runs, e, c.want, c.runs)
		}
	}
}

// late: thread 1 asserts that the variable 0 is not 0, and thread 0 may be late to store it.
func late() api.Program {
	return program(code(set(0, 1), store(0, 0)), code(set(3, 5), load(1, 0), assert(1)))
}

// blocks: thread 2 fails, if thread 0 has not stored ahead of its Load; thread 1 fails whatever the others do.
func blocks() api.Program {
	return program(code(set(0, 1), store(0, 0)), code(set(0, 1), assert(1)), code(load(0, 0), assert(0)))
}

func cross() api.Program {
	return program(code(lock(0), lock(1)), code(lock(1), lock(0)))
}

func TestP7Example(t *testing.T) {
	two, s := program(grow(), grow()), []int{0, 0, 1, 2, 0}
	runShortenCases(t, []shortenCase{
		{"the example", two, s, 9, []int{2}, 4},
		{"no fuel", two, s, 0, []int{0, 0, 1, 2}, 0},
		{"one run", two, s, 1, []int{0, 1, 2}, 1},
		{"two runs", two, s, 2, []int{1, 2}, 2},
		{"one less than enough", two, s, 3, []int{2}, 3},
		{"just enough", two, s, 4, []int{2}, 4},
		{"one more than enough", two, s, 5, []int{2}, 4},
		{"the greatest fuel", two, s, greatest, []int{2}, 4},
	})
}

// Without fuel the cut alone is to be seen.
func TestP7Cut(t *testing.T) {
	two := program(grow(), grow())
	long := program(code(jump(0, 0)), code(assert(0)))
	runShortenCases(t, []shortenCase{
		{"nothing", two, nil, 0, nil, 0},
		{"open", two, []int{0, 1, 0}, 0, []int{0, 1, 0}, 0},
		{"clean", two, repeated(4, 1, 0), 0, repeated(4, 1, 0), 0},
		{"stuck", cross(), []int{1, 0}, 0, []int{1, 0}, 0},
		{"failed, nothing behind", late(), []int{1, 0, 1, 1}, 0, []int{1, 0, 1, 1}, 0},
		{"failed, numbers behind", late(), []int{1, 0, 1, 1, 0, 7, 1}, 0, []int{1, 0, 1, 1}, 0},
		{"failed at once", long, []int{1, 0, 0, 0}, 0, []int{1}, 0},
		{"wrong, nothing behind", two, []int{0, 1, 2}, 0, []int{0, 1, 2}, 0},
		{"wrong, numbers behind", two, []int{0, 1, -1, 0, 1, 9}, 0, []int{0, 1, -1}, 0},
		{"wrong at once", two, []int{greatest, 0, 1}, 0, []int{greatest}, 0},
		{"wrong by a thread that waits", cross(), []int{0, 1, 0, 1, 1}, 0, []int{0, 1, 0}, 0},
		{"wrong by a thread that is done", late(), []int{0, 0, 0, 1, 1}, 0, []int{0, 0, 0}, 0},
		{"500 numbers, wrong at the last one", long, append(times(499, 0), 2), 0, append(times(499, 0), 2), 0},
		{"500 numbers, failed at the last but one", long, append(times(498, 0), 1, 0), 0, append(times(498, 0), 1), 0},
		{"500 numbers", long, times(500, 0), 0, times(500, 0), 0},
	})
}

// What is left out, and how many runs that takes, for each verdict.
func TestP7Trials(t *testing.T) {
	two := program(grow(), grow())
	runShortenCases(t, []shortenCase{
		{"nothing", two, nil, 5, nil, 0},
		{"open", two, []int{0, 1}, 5, nil, 2},
		{"open, as it stays so without any number", two, []int{0, 1, 0, 0, 0}, 99, nil, 5},
		{"clean, and each number is needed", two, repeated(4, 0, 1), 99, repeated(4, 0, 1), 8},
		{"clean without any number", program(nil), nil, 99, nil, 0},
		{"stuck by two", cross(), []int{0, 1}, 99, []int{0, 1}, 2},
		{"stuck, and each number is needed", program(code(set(0, 1), lock(0), lock(0)), code(set(0, 1))), []int{1, 0, 0}, 99, []int{1, 0, 0}, 3},
		{"failed, behind what it does not need", late(), []int{0, 1, 1, 1, 0, 7}, 99, []int{1, 1, 1}, 4},
		{"failed, another instruction of the thread does not count", branch(), []int{1, 1, 0, 0, 0}, 99, []int{1, 1, 0, 0, 0}, 5},
		{"failed, at the instruction that it comes to without the others", branch(), []int{0, 1, 1, 0, 0}, 99, []int{0, 0, 0}, 7},
		{"failed, another thread's failure does not count", program(code(assert(0)), code(load(0, 0), assert(0)), code(set(0, 1), store(0, 0))), []int{2, 2, 1, 1, 0}, 1, []int{2, 2, 1, 1, 0}, 1},
		{"wrong, and each number is needed", cross(), []int{0, 1, 1}, 99, []int{0, 1, 1}, 3},
		{"wrong, at another place", program(code(lock(0), unlock(0)), code(lock(0), unlock(0))), []int{0, 0, 1, 1, 9}, 99, []int{9}, 5},
	})
}

// Behind a number that stays out all begins anew at the front: one that was needed is tried once more.
func TestP7BeginsAnew(t *testing.T) {
	p, s := program(code(set(0, 1), set(0, 2)), code(set(3, 5), load(1, 0), assert(1))), []int{1, 0, 1, 0, 1}
	q, r := blocks(), []int{0, 0, 2, 2, 1, 1}
	runShortenCases(t, []shortenCase{
		{"0 between 1", p, s, 99, []int{1, 1, 1}, 8},
		{"0 between 1, just enough", p, s, 8, []int{1, 1, 1}, 8},
		{"0 between 1, one less", p, s, 7, []int{1, 1, 1}, 7},
		{"0 between 1, as far as the second one", p, s, 5, []int{1, 1, 1}, 5},
		{"0 between 1, one less than that", p, s, 4, []int{1, 1, 0, 1}, 4},
		{"0 between 1, as far as the first one", p, s, 2, []int{1, 1, 0, 1}, 2},
		{"0 between 1, one less than that", p, s, 1, s, 1},
		{"0 needed for a time", q, r, 2, r, 2},
		{"0 needed for a time, and a 2 out", q, r, 3, []int{0, 0, 2, 1, 1}, 3},
		{"0 needed no more", q, r, 4, []int{0, 2, 1, 1}, 4},
		{"0 needed no more, the second one", q, r, 5, []int{2, 1, 1}, 5},
		{"0 needed no more, and the other 2 out", q, r, 6, []int{1, 1}, 6},
		{"0 needed no more, one less than enough", q, r, 7, []int{1, 1}, 7},
		{"0 needed no more, just enough", q, r, 8, []int{1, 1}, 8},
		{"0 needed no more, to the end", q, r, greatest, []int{1, 1}, 8},
	})
}

// The cut is made once: what a trial leaves behind its end is gone through like all other numbers.
func TestP7CutsOnce(t *testing.T) {
	locks := program(code(lock(0), unlock(0)), code(lock(0), unlock(0)))
	// Thread 1 loads and asserts, again and again; thread 0 stores 1, then 0.
	loop := program(code(set(0, 1), store(0, 0), store(0, 1)), code(load(0, 0), assert(0), jump(3, 0)))
	s := []int{0, 0, 1, 1, 1, 0, 1, 1}
	runShortenCases(t, []shortenCase{
		{"wrong further ahead", locks, []int{0, 0, 1, 1, 9}, 1, []int{0, 1, 1, 9}, 1},
		{"wrong further ahead, then not", locks, []int{0, 0, 1, 1, 9}, 2, []int{1, 1, 9}, 2},
		{"failed further ahead", loop, s, 1, []int{0, 1, 1, 1, 0, 1, 1}, 1},
		{"failed further ahead, to the end", loop, s, 99, []int{1, 1}, 8},
	})
}

func TestP7Refuses(t *testing.T) {
	two, longer := program(code(jump(0, 0)), nil), times(501, 0)
	for k, c := range []struct {
		p    api.Program
		s    []int
		fuel int
		want api.Errno
	}{
		{two, nil, 0, api.OK}, {two, nil, -1, api.ErrArg}, {two, nil, least, api.ErrArg}, {two, []int{0, 0, 9}, -1, api.ErrArg}, {two, []int{0}, greatest, api.OK},
		{two, times(500, 0), 0, api.OK}, {two, longer, 0, api.ErrArg}, {two, longer, greatest, api.ErrArg}, {two, longer, -1, api.ErrArg}, {two, times(501, 9), 5, api.ErrArg},
		{program(), nil, 5, api.ErrProgram}, {program(), nil, -1, api.ErrProgram}, {program(), longer, 5, api.ErrProgram}, {program(), longer, least, api.ErrProgram},
		{program(grow(), code(set(0, 1), jump(0, 3))), []int{0}, 5, api.ErrProgram}, {program(longThread(17, set(0, 1))), longer, -1, api.ErrProgram},
	} {
		short, runs, e := rerun.Shorten(c.p, c.s, c.fuel)
		if e != c.want || e != api.OK && (len(short) != 0 || runs != 0) {
			t.Errorf("P7: Shorten: line %d: %v, %d, %d, want %d", k, short, runs, e, c.want)
		}
	}
}

// 500 numbers, of which the first ones must stay, so that each trial that
// succeeds comes behind many that don't.
func TestP7LongSchedules(t *testing.T) {
	p := program(code(set(0, 83), set(1, 1), sub(0, 1), jump(0, 5), jump(3, 2), assert(3)), code(jump(0, 0)))
	need := len(mustReplay(t, p, times(500, 0)).Steps)
	s := slices.Concat(times(need-1, 0), times(500-need, 1), times(1, 0))
	runShortenCases(t, []shortenCase{
		{"long, with fuel without end", p, s, greatest, times(need, 0), (500-need)*need + need},
		{"long, with some fuel", p, s, 3*need - 1, slices.Concat(times(need-1, 0), times(500-need-2, 1), times(1, 0)), 3*need - 1},
		{"long and open", program(code(jump(0, 0))), times(500, 0), 499, []int{0}, 499},
		{"long and wrong", program(code(jump(0, 0))), append(times(499, 0), 1), 500, []int{1}, 500},
	})
}

func TestP7ByWords(t *testing.T) {
	d := dice(7)
	var kinds [6]int
	cut, shorter := 0, 0
	for range 4000 {
		p, s := anyRun(&d, 25)
		all, enough := shortenByWords(t, p, s, greatest)
		for _, fuel := range []int{0, 1, d.roll(enough + 2), max(0, enough-1), enough, enough + 1, greatest} {
			want, wantRuns := shortenByWords(t, p, s, fuel)
			short, runs, e := rerun.Shorten(p, s, fuel)
			if e != api.OK || !slices.Equal(short, want) || runs != wantRuns {
				t.Fatalf("P7: Shorten(%v, %v, %d): %v, %d, %d, want %v, %d", p, s, fuel, short, runs, e, want, wantRuns)
			}
		}
		r := mustReplay(t, p, s)
		kinds[r.Verdict.Kind]++
		if len(r.Steps) < len(s) {
			cut++
		}
		if len(all) > 0 && len(all) < len(r.Steps) {
			shorter++
		}
	}
	if slices.Min(kinds[1:]) < 50 || cut < 500 || shorter < 500 {
		t.Errorf("too few of some: verdicts %v, cut %d, shorter %d", kinds, cut, shorter)
	}
}
