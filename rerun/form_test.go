package rerun_test

import (
	"slices"
	"testing"

	"rerun/api"
	"rerun/rerun"
)

func mustForm(t *testing.T, p api.Program, schedule []int) []int {
	t.Helper()
	form, e := rerun.Form(p, schedule)
	if e != api.OK {
		t.Fatalf("Form(%v, %v): error %d", p, schedule, e)
	}
	return form
}

func mustSame(t *testing.T, p api.Program, a, b []int) bool {
	t.Helper()
	same, e := rerun.Same(p, a, b)
	if e != api.OK {
		t.Fatalf("Same(%v, %v, %v): error %d", p, a, b, e)
	}
	return same
}

// lockOf and variableOf: the number of what an instruction uses, or -1.
func lockOf(in api.Ins) int {
	if in.Op == api.Lock || in.Op == api.Unlock {
		return in.A
	}
	return -1
}

func variableOf(in api.Ins) int {
	switch in.Op {
	case api.Load:
		return in.B
	case api.Store:
		return in.A
	}
	return -1
}

// depend: the document's words on two steps of a run, i ahead of j.
func depend(p api.Program, r api.Result, i, j int) bool {
	a, b := r.Steps[i], r.Steps[j]
	x, y := p.Threads[a.Thread][a.At], p.Threads[b.Thread][b.At]
	return a.Thread == b.Thread ||
		lockOf(x) >= 0 && lockOf(x) == lockOf(y) ||
		variableOf(x) >= 0 && variableOf(x) == variableOf(y) && (x.Op == api.Store || y.Op == api.Store) ||
		r.Verdict.Kind == api.Failed && j == len(r.Steps)-1
}

// formByWords: the document's words on layers, each step held against each one ahead of it.
func formByWords(p api.Program, r api.Result) []int {
	layers := make([]int, len(r.Steps))
	for j := range r.Steps {
		for i := range j {
			if depend(p, r, i, j) {
				layers[j] = max(layers[j], layers[i]+1)
			}
		}
	}
	var form []int
	for layer := range len(r.Steps) {
		for thread := range p.Threads {
			for i, s := range r.Steps {
				if layers[i] == layer && s.Thread == thread {
					form = append(form, thread)
				}
			}
		}
	}
	return form
}

func sameByWords(a, b api.Verdict) bool {
	return a.Kind == b.Kind && a.Thread == b.Thread && (a.Kind == api.Wrong || a.At == b.At)
}

// busyProgram has short threads that use few variables and locks, so that many of their steps depend on one another.
func busyProgram(d *dice) api.Program {
	var p api.Program
	for range 2 + d.roll(3) {
		var c []api.Ins
		length := 1 + d.roll(7)
		for range length {
			c = append(c, oneOf(d, set(d.roll(2), 1), load(d.roll(2), d.roll(2)), store(d.roll(2), d.roll(2)), load(d.roll(2), d.roll(2)), store(d.roll(2), d.roll(2)), lock(d.roll(2)), unlock(d.roll(2)), jump(d.roll(2), d.roll(length+1)), assert(d.roll(2)), add(0, 1)))
		}
		p.Threads = append(p.Threads, c)
	}
	return p
}

// anyRun makes a program, and a schedule for it of at most n numbers; a few numbers more stand behind some of them.
func anyRun(d *dice, n int) (api.Program, []int) {
	p := busyProgram(d)
	if d.roll(3) == 0 {
		p = anyProgram(d)
	}
	m := &model{p: p, owner: map[int]int{}}
	schedule, _ := m.run(d, d.roll(n+1))
	for range max(0, d.roll(6)-3) {
		schedule = append(schedule, d.roll(6)-1)
	}
	return p, schedule
}

type formCase struct {
	name    string
	p       api.Program
	s, want []int
}

func runFormCases(t *testing.T, cases []formCase) {
	t.Helper()
	for _, c := range cases {
		form, e := rerun.Form(c.p, c.s)
		if e != api.OK || !slices.Equal(form, c.want) {
			t.Errorf("P6: %s: Form: %v, %d, want %v", c.name, form, e, c.want)
		}
	}
}

func TestP6FormExamples(t *testing.T) {
	p := program(grow(), grow())
	runFormCases(t, []formCase{
		{"a lost update", p, []int{0, 1, 0, 0, 0, 1, 1, 1}, []int{0, 1, 0, 1, 0, 1, 0, 1}},
		{"one behind the other", p, []int{0, 0, 0, 0, 1, 1, 1, 1}, []int{0, 0, 0, 0, 1, 1, 1, 1}},
	})
}

// Where two steps depend the later one stays behind, though its thread is the
// lower one; where they don't it comes ahead.
func TestP6FormByWhatStepsDependOn(t *testing.T) {
	sets := longThread(4, set(0, 1))
	runFormCases(t, []formCase{
		{"steps of one thread", program(sets, sets, sets), []int{2, 2, 1, 0, 0, 1, 2}, []int{0, 1, 2, 0, 1, 2, 2}},
		{"one thread alone", program(nil, sets), []int{1, 1, 1}, []int{1, 1, 1}},
		{"Load behind Store", program(code(load(0, 0)), code(store(0, 0))), []int{1, 0}, []int{1, 0}},
		{"Store behind Load", program(code(store(0, 0)), code(load(0, 0))), []int{1, 0}, []int{1, 0}},
		{"Store behind Store", program(code(store(3, 0)), code(store(3, 1))), []int{1, 0}, []int{1, 0}},
		{"Load and Load", program(code(load(0, 0)), code(load(0, 0))), []int{1, 0}, []int{0, 1}},
		{"Load behind a late Load", program(code(load(0, 0)), code(set(0, 1), set(0, 1), load(0, 0))), []int{1, 1, 1, 0}, []int{0, 1, 1, 1}},
		{"Stores of two variables", program(code(store(0, 0)), code(store(1, 0))), []int{1, 0}, []int{0, 1}},
		{"Load and Store of two variables", program(code(load(1, 0)), code(store(1, 0))), []int{1, 0}, []int{0, 1}},
		{"Load and Store of one variable, other registers", program(code(load(0, 2)), code(store(2, 3))), []int{1, 0}, []int{1, 0}},
		{"Load behind the Store ahead of another Load", program(code(load(0, 0)), code(store(0, 0)), code(load(0, 0))), []int{1, 2, 0}, []int{1, 0, 2}},
		{"Store behind Load behind Store", program(code(store(0, 0)), code(load(0, 0)), code(store(0, 0))), []int{2, 1, 0}, []int{2, 1, 0}},
		{"Store behind the highest Load, which is not the last", program(code(store(0, 0)), code(set(0, 1), load(0, 0)), code(load(0, 0))), []int{1, 1, 2, 0}, []int{1, 2, 1, 0}},
		{"Store behind Loads of several", program(code(store(0, 0)), code(load(0, 0)), code(load(0, 0)), code(set(0, 1), set(0, 1), load(0, 0))), []int{3, 3, 3, 2, 1, 0}, []int{1, 2, 3, 3, 3, 0}},
		{"Lock behind Unlock", program(code(lock(0)), code(lock(0), unlock(0))), []int{1, 1, 0}, []int{1, 1, 0}},
		{"Lock behind Unlock, and again", program(code(lock(2), unlock(2)), code(lock(2), unlock(2)), code(lock(2), unlock(2))), []int{2, 2, 0, 0, 1, 1}, []int{2, 2, 0, 0, 1, 1}},
		{"two locks", program(code(lock(1), unlock(1)), code(lock(0), unlock(0))), []int{1, 1, 0, 0}, []int{0, 1, 0, 1}},
		{"a lock and a variable that is stored", program(code(store(0, 0)), code(lock(0), unlock(0))), []int{1, 1, 0}, []int{0, 1, 1}},
		{"a variable that is stored, and a lock", program(code(lock(1), unlock(1)), code(store(1, 1))), []int{1, 0, 0}, []int{0, 1, 0}},
		{"a lock and a variable that is loaded", program(code(load(0, 2)), code(lock(2), unlock(2))), []int{1, 1, 0}, []int{0, 1, 1}},
		{"a thread, a lock and a variable of one number", program(code(lock(1)), code(set(1, 1), set(1, 2)), code(store(1, 1))), []int{2, 1, 1, 0}, []int{0, 1, 2, 1}},
		{"what has no variable and no lock", program(code(set(1, 1), add(1, 1), sub(1, 1), mul(1, 1), jump(1, 0)), code(set(1, 1), div(1, 1), assert(1), sub(1, 1), jump(1, 5))), []int{1, 1, 1, 1, 1, 0, 0, 0, 0, 0}, repeated(5, 0, 1)},
	})
}

func TestP6FormOfRunsThatFail(t *testing.T) {
	sets := longThread(3, set(0, 1))
	fails := []struct {
		name string
		in   api.Ins
	}{{"Assert", assert(3)}, {"Div", div(0, 3)}, {"Unlock", unlock(1)}}
	for _, f := range fails {
		runFormCases(t, []formCase{
			{f.name + " behind all", program(code(f.in), sets, sets), []int{1, 2, 1, 0}, []int{1, 2, 1, 0}},
			{f.name + " behind all, not the last ones alone", program(code(f.in), sets, sets), []int{2, 2, 2, 1, 0}, []int{1, 2, 2, 2, 0}},
			{f.name + ", and what comes behind is no step", program(sets, code(f.in), sets), []int{2, 2, 1, 2, 0, 0}, []int{2, 2, 1}},
			{f.name + " at first", program(code(f.in), sets), []int{0, 1, 1}, []int{0}},
			{f.name + " in its thread's second step", program(code(set(0, 1), f.in), sets), []int{1, 0, 1, 0}, []int{0, 1, 1, 0}},
		})
	}
	runFormCases(t, []formCase{
		{"Unlock of another's lock", program(code(unlock(0)), code(lock(0), set(0, 1), set(0, 1))), []int{1, 1, 1, 0}, []int{1, 1, 1, 0}},
		{"what may fail, but does not", program(code(set(0, 1), assert(0), div(0, 0)), sets), []int{1, 1, 1, 0, 0, 0}, repeated(3, 0, 1)},
	})
}

func TestP6FormOfOtherVerdicts(t *testing.T) {
	two := program(grow(), grow())
	cross := program(code(lock(0), lock(1)), code(lock(1), lock(0)))
	loops := program(code(jump(0, 0)), code(jump(0, 0)), code(jump(0, 0)), code(jump(0, 0)))
	runFormCases(t, []formCase{
		{"no number", two, nil, nil},
		{"an empty schedule", two, []int{}, nil},
		{"open", two, []int{1, 1, 0}, []int{0, 1, 1}},
		{"wrong at once", two, []int{2, 0, 1}, nil},
		{"wrong behind steps", two, []int{1, 0, 9, 1}, []int{0, 1}},
		{"wrong by a thread that is done", program(code(set(0, 1)), grow()), []int{1, 0, 0, 1}, []int{0, 1}},
		{"wrong by the least number", two, []int{1, 0, least, 1}, []int{0, 1}},
		{"wrong by the greatest number", two, []int{1, 0, greatest, 1}, []int{0, 1}},
		{"stuck", cross, []int{1, 0}, []int{0, 1}},
		{"wrong behind stuck", cross, []int{1, 0, 0}, []int{0, 1}},
		{"500 numbers of two threads", loops, append(times(250, 1), times(250, 0)...), repeated(250, 0, 1)},
		{"500 numbers of four threads", loops, slices.Concat(times(125, 3), times(125, 2), times(125, 1), times(125, 0)), repeated(125, 0, 1, 2, 3)},
	})
}

func TestP6FormRefuses(t *testing.T) {
	two := program(grow(), grow())
	for _, p := range []api.Program{{}, program(nil, nil, nil, nil, nil), program(longThread(17, set(0, 1))), program(grow(), code(set(4, 0)))} {
		for _, s := range [][]int{nil, {0}, times(501, 0)} {
			if form, e := rerun.Form(p, s); e != api.ErrProgram || len(form) != 0 {
				t.Errorf("P6: Form(%v, %d numbers): %v, %d, want ErrProgram", p, len(s), form, e)
			}
		}
	}
	if _, e := rerun.Form(two, times(500, 0)); e != api.OK {
		t.Errorf("P6: Form of 500 numbers: %d", e)
	}
	for _, s := range [][]int{times(501, 0), times(501, -1), append([]int{9}, times(500, 0)...)} {
		if form, e := rerun.Form(two, s); e != api.ErrArg || len(form) != 0 {
			t.Errorf("P6: Form of %d numbers: %v, %d, want ErrArg", len(s), form, e)
		}
	}
}

func TestP6FormByWords(t *testing.T) {
	d := dice(6)
	var kinds [6]int
	moved := 0
	for range 20000 {
		p, s := anyRun(&d, 40)
		r := mustReplay(t, p, s)
		want := formByWords(p, r)
		form := mustForm(t, p, s)
		if !slices.Equal(form, want) {
			t.Fatalf("P6: Form(%v, %v): %v, want %v", p, s, form, want)
		}
		kinds[r.Verdict.Kind]++
		if !slices.Equal(form, s[:len(form)]) {
			moved++
		}
	}
	if slices.Min(kinds[1:]) < 100 || moved < 5000 {
		t.Errorf("too few of some verdicts %v, or of other orders %d", kinds, moved)
	}
}

type sameCase struct {
	name string
	p    api.Program
	a, b []int
	want bool
}

func runSameCases(t *testing.T, cases []sameCase) {
	t.Helper()
	for _, c := range cases {
		if same, e := rerun.Same(c.p, c.a, c.b); same != c.want || e != api.OK {
			t.Errorf("P6: %s: Same: %v, %d, want %v", c.name, same, e, c.want)
		}
		if same, e := rerun.Same(c.p, c.b, c.a); same != c.want || e != api.OK {
			t.Errorf("P6: %s, the other way round: Same: %v, %d, want %v", c.name, same, e, c.want)
		}
	}
}

// branch: thread 0 fails at 3, or at 2 if thread 1 has stored ahead of its Load.
func branch() api.Program {
	return program(code(load(0, 0), jump(0, 3), assert(1), assert(1)), code(set(0, 1), store(0, 0)))
}

func TestP6Same(t *testing.T) {
	two := program(grow(), grow())
	asserts := program(code(assert(0)), code(assert(0)))
	cross := program(code(lock(0), lock(1)), code(lock(1), lock(0)))
	one := program(code(set(0, 1)), code(set(0, 1)))
	runSameCases(t, []sameCase{
		{"nothing and nothing", two, nil, []int{}, true},
		{"nothing and something", two, nil, []int{0}, false},
		{"one schedule", two, []int{0, 1, 1}, []int{0, 1, 1}, true},
		{"Loads change places", two, []int{0, 1}, []int{1, 0}, true},
		{"other threads", two, []int{0}, []int{1}, false},
		{"more of one thread", two, []int{0, 1}, []int{0, 1, 1}, false},
		{"Load and Store change places", two, []int{0, 0, 0, 0, 1}, []int{0, 0, 0, 1, 0}, false},
		{"clean, the same in another order", two, []int{0, 1, 0, 0, 0, 1, 1, 1}, []int{1, 0, 1, 0, 1, 0, 0, 1}, true},
		{"clean, Stores change places", two, []int{0, 1, 0, 0, 0, 1, 1, 1}, []int{0, 1, 0, 0, 1, 1, 1, 0}, false},
		{"clean, one behind the other", two, []int{0, 0, 0, 0, 1, 1, 1, 1}, []int{1, 1, 1, 1, 0, 0, 0, 0}, false},
		{"Kind: wrong and open, of one form", two, []int{0, 9}, []int{0}, false},
		{"Kind: wrong and clean, of one form", one, []int{0, 1, 0}, []int{0, 1}, false},
		{"Kind: wrong and stuck, of one form", cross, []int{0, 1, 1}, []int{0, 1}, false},
		{"Kind: clean and open", one, []int{0, 1}, []int{0}, false},
		{"Kind: failed and clean", asserts, []int{0}, nil, false},
		{"Kind: stuck and open", cross, []int{0, 1}, []int{0}, false},
		{"stuck, the same in another order", cross, []int{0, 1}, []int{1, 0}, true},
		{"stuck, but by others", cross, []int{0, 0}, []int{1, 1}, false},
		{"Thread: failed", asserts, []int{0}, []int{1}, false},
		{"At: failed", branch(), []int{0, 1, 1, 0, 0}, []int{1, 1, 0, 0, 0}, false},
		{"failed, the same in another order", branch(), []int{0, 1, 1, 0, 0}, []int{1, 0, 0, 1, 0}, true},
		{"failed, with other numbers behind", branch(), []int{0, 1, 1, 0, 0, 9}, []int{0, 1, 1, 0, 0, -1, 0}, true},
		{"failed, with a step less ahead", branch(), []int{0, 1, 0, 0}, []int{0, 0, 0}, false},
		{"wrong by other numbers", two, []int{0, 9}, []int{0, -1}, true},
		{"wrong by other numbers, in another order", two, []int{0, 1, 1, 9}, []int{1, 1, 0, least, 0}, true},
		{"wrong with other numbers behind", two, []int{0, 9, 9}, []int{0, 8}, true},
		{"wrong at once", two, []int{9, 0, 1}, []int{-1}, true},
		{"wrong at another place", two, []int{0, 9}, []int{0, 0, 9}, false},
		{"wrong at one place behind others", two, []int{0, 0, 9}, []int{0, 1, 9}, false},
	})
}

func TestP6SameRefuses(t *testing.T) {
	two := program(code(jump(0, 0)), code(jump(0, 0)))
	long, longer := times(500, 0), times(501, 0)
	for k, c := range []struct {
		p    api.Program
		a, b []int
		want api.Errno
	}{
		{two, long, long, api.OK}, {two, longer, nil, api.ErrArg}, {two, nil, longer, api.ErrArg}, {two, longer, longer, api.ErrArg},
		{two, long, longer, api.ErrArg}, {two, longer, long, api.ErrArg}, {two, times(501, 9), []int{9}, api.ErrArg}, {two, []int{9}, times(501, 9), api.ErrArg},
		{program(), nil, nil, api.ErrProgram}, {program(), longer, nil, api.ErrProgram}, {program(), nil, longer, api.ErrProgram}, {program(), longer, longer, api.ErrProgram},
		{program(grow(), code(lock(3))), nil, nil, api.ErrProgram}, {program(grow(), code(lock(3))), longer, longer, api.ErrProgram},
	} {
		if same, e := rerun.Same(c.p, c.a, c.b); e != c.want || same != (e == api.OK) {
			t.Errorf("P6: Same: line %d: %v, %d, want %d", k, same, e, c.want)
		}
	}
	runSameCases(t, []sameCase{
		{"500 numbers in another order", two, append(times(250, 1), times(250, 0)...), repeated(250, 0, 1), true},
		{"500 numbers, one of another thread", two, append(times(250, 1), times(250, 0)...), append(times(249, 1), times(251, 0)...), false},
	})
}

// changed is a schedule that is mostly near to the one given.
func changed(d *dice, s []int) []int {
	s = slices.Clone(s)
	switch d.roll(5) {
	case 0:
		return append(s, d.roll(6)-1)
	case 1:
		return s[:d.roll(len(s)+1)]
	}
	for range 1 + d.roll(4) {
		if len(s) > 1 {
			i := d.roll(len(s) - 1)
			s[i], s[i+1] = s[i+1], s[i]
		}
	}
	return s
}

func TestP6SameByWords(t *testing.T) {
	d := dice(66)
	var counts [2][6]int
	for range 20000 {
		p, a := anyRun(&d, 25)
		b := changed(&d, a)
		x, y := mustReplay(t, p, a), mustReplay(t, p, b)
		want := sameByWords(x.Verdict, y.Verdict) && slices.Equal(formByWords(p, x), formByWords(p, y))
		if same := mustSame(t, p, a, b); same != want {
			t.Fatalf("P6: Same(%v, %v, %v): %v, want %v", p, a, b, same, want)
		}
		if want {
			counts[1][x.Verdict.Kind]++
		} else {
			counts[0][x.Verdict.Kind]++
		}
	}
	if slices.Min(counts[0][1:]) < 50 || slices.Min(counts[1][1:]) < 50 {
		t.Errorf("too few of some: %v", counts)
	}
}
