package rerun_test

import (
	"fmt"
	"slices"
	"testing"

	"rerun/api"
	"rerun/rerun"
)

// roomyProgram is p, with spare room that holds something behind each list.
func roomyProgram(p api.Program) api.Program {
	room := make([][]api.Ins, 0, len(p.Threads)+2)
	for _, c := range p.Threads {
		room = append(room, append(slices.Clone(c), api.Ins{Op: 99, A: 98, B: 97, N: 96}, set(3, 33))[:len(c)])
	}
	room = append(room, code(set(1, 11)), code(set(2, 22)))
	return api.Program{Threads: room[:len(p.Threads)]}
}

func roomySchedule(s []int) []int {
	return append(slices.Clone(s), -7, 77, 1, 2)[:len(s)]
}

// wholeProgram copies all that p's lists reach, spare room too.
func wholeProgram(p api.Program) [][]api.Ins {
	var all [][]api.Ins
	for _, c := range p.Threads[:cap(p.Threads)] {
		all = append(all, slices.Clone(c[:cap(c)]))
	}
	return all
}

func samePrograms(a, b [][]api.Ins) bool {
	return slices.EqualFunc(a, b, func(x, y []api.Ins) bool { return slices.Equal(x, y) })
}

type runCase struct {
	p api.Program
	s []int
}

// runCases: runs of every kind of verdict, and refusals.
func runCases() []runCase {
	return []runCase{
		{program(grow(), grow()), []int{0, 1, 0, 0, 0, 1, 1, 1}},
		{program(grow(), grow()), []int{0, 0, 2}},
		{program(grow(), grow()), []int{0}},
		{program(grow(), grow()), nil},
		{program(code(lock(0), lock(1)), code(lock(1), lock(0))), []int{0, 1}},
		{program(code(set(0, 3), store(2, 0), assert(1))), []int{0, 0, 0, 0}},
		{program(code(div(0, 0))), []int{0}},
		{program(code(jump(0, 0)), code(lock(2), unlock(2)), nil), append(times(498, 0), 1, 1)},
		{program(grow(), grow()), times(501, 0)},
		{program(grow(), code(set(4, 0))), []int{0, 1}},
		{program(), []int{0, 1}},
		{program(longThread(17, set(0, 0))), []int{0, 1}},
	}
}

func TestP2ArgumentsAreAsTheyWere(t *testing.T) {
	for k, c := range runCases() {
		p, s := roomyProgram(c.p), roomySchedule(c.s)
		wantP, wantS := wholeProgram(p), slices.Clone(s[:cap(s)])
		rerun.Check(p)
		rerun.Replay(p, s)
		rerun.Encode(artifact(p, s, wrong(7)))
		rerun.Encode(artifact(p, s, wrong(-1)))
		rerun.Print(s)
		rerun.Form(p, s)
		rerun.Same(p, s, s)
		for _, fuel := range []int{least, -1, 0, 1, 2, 5, 1000, greatest} {
			rerun.Shorten(p, s, fuel)
		}
		if !samePrograms(wholeProgram(p), wantP) || !slices.Equal(s[:cap(s)], wantS) {
			t.Errorf("P2: line %d: %v, %v, want %v, %v", k, wholeProgram(p), s[:cap(s)], wantP, wantS)
		}
	}
}

// spoil writes into all that a result reaches, spare room too.
func spoil(r *api.Result, n int) {
	for i := range r.Steps[:cap(r.Steps)] {
		r.Steps[:cap(r.Steps)][i] = api.Step{Thread: n, At: n}
	}
	for i := range r.Regs[:cap(r.Regs)] {
		r.Regs[:cap(r.Regs)][i] = [api.Registers]int{n, n, n, n}
	}
}

func cloneResult(r api.Result) api.Result {
	r.Steps = slices.Clone(r.Steps[:cap(r.Steps)])
	r.Regs = slices.Clone(r.Regs[:cap(r.Regs)])
	return r
}

func TestP2AnswersAreNewMemory(t *testing.T) {
	for k, c := range runCases() {
		p, s := roomyProgram(c.p), roomySchedule(c.s)
		wantP, wantS := wholeProgram(p), slices.Clone(s[:cap(s)])
		first, e := rerun.Replay(p, s)
		want := cloneResult(first)
		want.Steps, want.Regs = want.Steps[:len(first.Steps)], want.Regs[:len(first.Regs)]
		second, _ := rerun.Replay(p, s)
		secondWhole := cloneResult(second)
		spoil(&first, -5)
		if !equalResults(cloneResult(second), secondWhole) {
			t.Errorf("P2: line %d: an answer changed with another one", k)
		}
		if !samePrograms(wholeProgram(p), wantP) || !slices.Equal(s[:cap(s)], wantS) {
			t.Errorf("P2: line %d: the arguments changed with the answer", k)
		}
		third, f := rerun.Replay(p, s)
		if e != f || !equalResults(third, want) {
			t.Errorf("P2: line %d: %v behind a spoilt answer, want %v", k, third, want)
		}
	}
}

func TestP2ArgumentsAreNotKept(t *testing.T) {
	p, s := program(grow(), grow()), []int{0, 0, 0, 0, 1}
	r := mustReplay(t, p, s)
	want := cloneResult(r)
	p.Threads[0][1] = set(1, 40)
	p.Threads[1] = code(load(3, 0))
	if !equalResults(cloneResult(r), want) {
		t.Errorf("P2: the answer changed with the program: %v, want %v", r, want)
	}
	again := mustReplay(t, p, s)
	if again.Vars != [4]int{40} || !slices.Equal(again.Regs, [][4]int{{40, 40}, {0, 0, 0, 40}}) || again.Verdict != verdict(api.Clean) {
		t.Errorf("P2: the changed program: %v", again)
	}
	s[0] = 2
	if got := mustReplay(t, p, s); got.Verdict != wrong(0) {
		t.Errorf("P2: the changed schedule: %v", got)
	}
	if !equalResults(cloneResult(r), want) {
		t.Errorf("P2: the answer changed with the schedule: %v, want %v", r, want)
	}
}

// list is a list of an answer: how to write into all of it, spare room too, and what it holds.
type list struct {
	name  string
	spoil func(n int)
	holds func() string
}

func insList(name string, c []api.Ins) list {
	all := c[:cap(c)]
	return list{name, func(n int) {
		for i := range all {
			all[i] = api.Ins{Op: n, A: n, B: n, N: n}
		}
	}, func() string { return fmt.Sprint(all) }}
}

func numberList(name string, s []int) list {
	all := s[:cap(s)]
	return list{name, func(n int) {
		for i := range all {
			all[i] = n
		}
	}, func() string { return fmt.Sprint(all) }}
}

func threadList(name string, threads [][]api.Ins) list {
	all := threads[:cap(threads)]
	return list{name, func(n int) {
		for i := range all {
			all[i] = longThread(1, set(0, n))
		}
	}, func() string { return fmt.Sprint(all) }}
}

func listsOf(name string, a api.Artifact) []list {
	var all []list
	for t, c := range a.Program.Threads {
		all = append(all, insList(fmt.Sprint(name, " thread ", t), c))
	}
	return append(all, numberList(name+" schedule", a.Schedule))
}

// apart tells which two lists share memory: each is written into, and the others must hold what they held.
func apart(t *testing.T, all []list) {
	t.Helper()
	for i, l := range all {
		var held []string
		for _, m := range all {
			held = append(held, m.holds())
		}
		l.spoil(1000 + i)
		for j, m := range all {
			if j != i && m.holds() != held[j] {
				t.Fatalf("P2: %s is written into with %s", m.name, l.name)
			}
		}
	}
}

func TestP2DecodedListsShareNothing(t *testing.T) {
	d := dice(22)
	for range 300 {
		a := anyArtifact(&d)
		s := mustEncode(t, a)
		first, _ := rerun.Decode(s)
		second, _ := rerun.Decode(s)
		apart(t, append(listsOf("first", first), append(listsOf("second", second), listsOf("given", a)...)...))
		apart(t, []list{threadList("first threads", first.Program.Threads), threadList("second threads", second.Program.Threads)})
		if third, e := rerun.Decode(s); e != api.OK || mustEncode(t, third) != s {
			t.Fatalf("P2: behind spoilt answers: %v, %d", third, e)
		}
	}
}

// A thread that grows in its spare room does not grow into the next one.
func TestP2DecodedThreadsGrowApart(t *testing.T) {
	d := dice(23)
	for range 300 {
		want := anyArtifact(&d)
		got, _ := rerun.Decode(mustEncode(t, want))
		for _, c := range got.Program.Threads {
			for range 20 {
				c = append(c, set(1, 77))
			}
		}
		if !equalArtifacts(got, want) {
			t.Fatalf("P2: %v, want %v", got, want)
		}
	}
}

func TestP2ParsedListsShareNothing(t *testing.T) {
	for _, s := range []string{"", "0", "0*3 1 2*2", "63*500", "0*2 1*498"} {
		first, _, _ := rerun.Parse(s)
		second, _, _ := rerun.Parse(s)
		want := slices.Clone(first)
		apart(t, []list{numberList("first", first), numberList("second", second)})
		if third, _, e := rerun.Parse(s); e != api.OK || !slices.Equal(third, want) {
			t.Errorf("P2: Parse(%q) behind spoilt answers: %v, %d", s, third, e)
		}
	}
}

func TestP2BytesAndTextsKeepNoArguments(t *testing.T) {
	a := artifact(program(grow(), grow()), []int{0, 0, 1}, verdict(api.Open))
	bytes, text := mustEncode(t, a), "0*2 1"
	printed, _ := rerun.Print(a.Schedule)
	a.Program.Threads[0][0], a.Schedule[0] = set(0, 9), 5
	if printed != text || bytes != mustEncode(t, artifact(program(grow(), grow()), []int{0, 0, 1}, verdict(api.Open))) {
		t.Errorf("P2: %q, % x", printed, bytes)
	}
	if again, _ := rerun.Print(a.Schedule); again != "5 0 1" {
		t.Errorf("P2: the changed schedule: %q", again)
	}
	if again := mustEncode(t, a); again != sealed(bodyOf(a)) {
		t.Errorf("P2: the changed artifact: % x", again)
	}
}

// What Form, Same and Shorten are handed, of many programs and schedules, is as it was behind each call.
func TestP2FormSameShortenChangeNothing(t *testing.T) {
	d := dice(24)
	for range 2000 {
		q, list := anyRun(&d, 30)
		p, s, other := roomyProgram(q), roomySchedule(list), roomySchedule(changed(&d, list))
		wantP, wantS, wantOther := wholeProgram(p), slices.Clone(s[:cap(s)]), slices.Clone(other[:cap(other)])
		for k, call := range []func(){
			func() { rerun.Form(p, s) },
			func() { rerun.Same(p, s, other) },
			func() { rerun.Shorten(p, s, 0) },
			func() { rerun.Shorten(p, s, 1+d.roll(40)) },
			func() { rerun.Shorten(p, s, greatest) },
		} {
			call()
			if !samePrograms(wholeProgram(p), wantP) || !slices.Equal(s[:cap(s)], wantS) || !slices.Equal(other[:cap(other)], wantOther) {
				t.Fatalf("P2: call %d: %v, %v, %v, want %v, %v, %v", k, wholeProgram(p), s[:cap(s)], other[:cap(other)], wantP, wantS, wantOther)
			}
		}
	}
}

// The schedules that Form and Shorten answer share nothing with what they
// were handed nor with other answers; behind spoilt ones the answers are the same.
func TestP2FormAndShortenAnswerNewMemory(t *testing.T) {
	d := dice(25)
	cases := runCases()
	for range 500 {
		p, s := anyRun(&d, 30)
		cases = append(cases, runCase{p, s})
	}
	for k, c := range cases {
		p, s := roomyProgram(c.p), roomySchedule(c.s)
		handed, want := wholeProgram(p), schedulesOf(p, s)
		apart(t, append(answerLists(p, s), numberList("the schedule", s)))
		if !samePrograms(wholeProgram(p), handed) {
			t.Fatalf("P2: line %d: the program changed with an answer", k)
		}
		if got := schedulesOf(p, roomySchedule(c.s)); !slices.EqualFunc(got, want, func(a, b []int) bool { return slices.Equal(a, b) }) {
			t.Fatalf("P2: line %d: behind spoilt answers: %v, want %v", k, got, want)
		}
	}
}

// schedulesOf are answers of Form and Shorten, some of them twice.
func schedulesOf(p api.Program, s []int) [][]int {
	var all [][]int
	for range 2 {
		form, _ := rerun.Form(p, s)
		all = append(all, form)
		for _, fuel := range []int{0, 1, 5, greatest} {
			short, _, _ := rerun.Shorten(p, s, fuel)
			all = append(all, short)
		}
	}
	return all
}

func answerLists(p api.Program, s []int) []list {
	var all []list
	for i, l := range schedulesOf(p, s) {
		all = append(all, numberList(fmt.Sprint("answer ", i), l))
	}
	return all
}

// An answer stays as it was, though the arguments change; and calls with these see the change.
func TestP2FormSameShortenKeepNothing(t *testing.T) {
	p, s := late(), []int{0, 1, 1, 1, 0}
	form := mustForm(t, p, s)
	short, _, _ := rerun.Shorten(p, s, 99)
	cut, _, _ := rerun.Shorten(p, s, 0)
	p.Threads[0], p.Threads[1][2], s[0] = nil, set(0, 1), 1
	if !slices.Equal(form, []int{0, 1, 1, 1}) || !slices.Equal(short, []int{1, 1, 1}) || !slices.Equal(cut, []int{0, 1, 1, 1}) {
		t.Errorf("P2: the answers changed with the arguments: %v, %v, %v", form, short, cut)
	}
	if again := mustForm(t, p, s); !slices.Equal(again, []int{1, 1, 1}) {
		t.Errorf("P2: the form of the changed schedule: %v", again)
	}
	if again, runs, _ := rerun.Shorten(p, s, 99); !slices.Equal(again, times(4, 1)) || runs != 4 {
		t.Errorf("P2: the changed schedule made shorter: %v, %d", again, runs)
	}
	if !mustSame(t, p, s, []int{1, 1, 1, 9}) {
		t.Errorf("P2: Same of the changed schedule")
	}
}
