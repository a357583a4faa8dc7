package rerun_test

import (
	"slices"
	"strings"
	"testing"

	"rerun/api"
	"rerun/rerun"
)

var edgeNumbers = []int{least, least + 1, -1, 0, 1, 2, 3, 4, 11, 12, 16, 17, 500, greatest}

func edgeSchedules() [][]int {
	return [][]int{
		nil, {}, {0}, {-1}, {1}, {3}, {4}, {63}, {64}, {least}, {greatest}, {0, greatest, 0},
		times(500, 0), times(501, 0), times(501, -1), times(100000, greatest), repeated(250, 0, 1),
	}
}

func edgePrograms() []api.Program {
	return []api.Program{
		{}, program(), program(nil), program(code()), program(nil, nil, nil, nil), program(nil, nil, nil, nil, nil),
		program(slices.Repeat([][]api.Ins{grow()}, 1000)...),
		program(longThread(16, set(0, 1))), program(longThread(17, set(0, 1))), program(longThread(100000, set(0, 1))),
		program(grow(), grow()), program(code(jump(0, 0)), code(jump(0, 0))), program(code(lock(0), lock(0))),
		program(grow(), longThread(17, set(0, 1))), program(code(assert(0))), program(code(div(0, 0))), program(code(unlock(2))),
	}
}

// callAll makes every call; a panic in one of them ends the test.
func callAll(t *testing.T, p api.Program, a, b []int, n int, text string) {
	t.Helper()
	rerun.Check(p)
	r, e := rerun.Replay(p, a)
	if e != api.OK && !isNothing(r) {
		t.Errorf("P1: Replay(%v, %v): beside the error %d: %v", p, a, e, r)
	}
	bytes, e := rerun.Encode(api.Artifact{Program: p, Schedule: a, Verdict: api.Verdict{Kind: n, Thread: n, At: n}})
	if e != api.OK && bytes != "" {
		t.Errorf("P1: Encode: beside the error %d: %q", e, bytes)
	}
	artifact, e := rerun.Decode(text)
	if e != api.OK && !isNoArtifact(artifact) {
		t.Errorf("P1: Decode(%q): beside the error %d: %v", text, e, artifact)
	}
	printed, e := rerun.Print(a)
	if e != api.OK && printed != "" {
		t.Errorf("P1: Print(%v): beside the error %d: %q", a, e, printed)
	}
	parsed, at, e := rerun.Parse(text)
	if e != api.OK && len(parsed) != 0 || e == api.OK && at != 0 || at < 0 || at > len(text) {
		t.Errorf("P1: Parse(%q): %v, %d beside %d", text, parsed, at, e)
	}
	form, e := rerun.Form(p, a)
	if e != api.OK && len(form) != 0 {
		t.Errorf("P1: Form(%v, %v): beside the error %d: %v", p, a, e, form)
	}
	same, e := rerun.Same(p, a, b)
	if e != api.OK && same {
		t.Errorf("P1: Same(%v, %v, %v): true beside the error %d", p, a, b, e)
	}
	short, runs, e := rerun.Shorten(p, a, n)
	if e != api.OK && (len(short) != 0 || runs != 0) {
		t.Errorf("P1: Shorten(%v, %v): beside the error %d: %v, %d", p, a, e, short, runs)
	}
}

func TestP1NoCallPanics(t *testing.T) {
	texts := []string{"", "0", "0*3 1", "RR\x01", "\xff\xff\xff", " ", "99999999999999999999*9"}
	k := 0
	for _, p := range edgePrograms() {
		for _, a := range edgeSchedules() {
			callAll(t, p, a, edgeSchedules()[k%len(edgeSchedules())], edgeNumbers[k%len(edgeNumbers)], texts[k%len(texts)])
			k++
		}
	}
}

// Every instruction of edge numbers, alone and behind others: Check and Replay
// agree on it, and Replay refuses it with nothing or runs it.
func TestP1AnyInstruction(t *testing.T) {
	schedule := repeated(3, 0, 1)
	for _, op := range edgeNumbers {
		for _, a := range edgeNumbers {
			for _, b := range edgeNumbers {
				for _, n := range edgeNumbers {
					in := api.Ins{Op: op, A: a, B: b, N: n}
					for _, p := range []api.Program{program(code(in)), program(grow(), code(set(0, 1), in))} {
						e := rerun.Check(p)
						r, f := rerun.Replay(p, schedule)
						if e != f || e != api.OK && !isNothing(r) {
							t.Fatalf("P1: %v: Check %d, Replay %d, %v", in, e, f, r)
						}
					}
				}
			}
		}
	}
}

func TestP1FirstErrorIsTold(t *testing.T) {
	bad := []api.Program{
		{}, program(nil, nil, nil, nil, nil), program(longThread(17, set(0, 1))),
		program(code(api.Ins{})), program(grow(), code(api.Ins{Op: 12})), program(grow(), code(set(4, 0))),
	}
	for _, p := range bad {
		for _, s := range [][]int{nil, {-1}, times(500, 0), times(501, 0), times(1000, greatest)} {
			r, e := rerun.Replay(p, s)
			if e != api.ErrProgram || !isNothing(r) {
				t.Errorf("P1: Replay(%v, %d numbers): %v, %d, want nothing and ErrProgram", p, len(s), r, e)
			}
		}
	}
	for _, s := range [][]int{times(501, 0), times(501, -1), times(5000, greatest)} {
		r, e := rerun.Replay(program(grow(), grow()), s)
		if e != api.ErrArg || !isNothing(r) {
			t.Errorf("P1: Replay(%d numbers): %v, %d, want nothing and ErrArg", len(s), r, e)
		}
	}
}

// An artifact with several faults: the program's is told, whatever the rest is.
func TestP1FirstErrorOfEncode(t *testing.T) {
	schedules := [][]int{nil, {0}, {-1}, {64}, times(501, 0)}
	verdicts := []api.Verdict{{Kind: 1}, {}, {Kind: 6}, {Kind: 1, Thread: 4}, {Kind: 1, At: 501}, {Kind: least, Thread: least, At: least}}
	for _, p := range edgePrograms() {
		for i, s := range schedules {
			for j, v := range verdicts {
				want := rerun.Check(p)
				if want == api.OK && (i > 1 || j > 0) {
					want = api.ErrArg
				}
				if got, e := rerun.Encode(artifact(p, s, v)); e != want || (got == "") != (e != api.OK) {
					t.Errorf("P1: Encode(%.100v, %d numbers, %v): %q, %d, want %d", p, len(s), v, got, e, want)
				}
			}
		}
	}
}

// Any bytes at all: those of an artifact cut, with more behind, and shaken; a
// text of each byte, and of each byte behind a good beginning.
func TestP1AnyBytesAndTexts(t *testing.T) {
	d := dice(11)
	list := []string{"", strings.Repeat("\x80", 100000), strings.Repeat("\xff", 100000), "RR\x01" + strings.Repeat("\x00", 100000), strings.Repeat("0 1 ", 100000), strings.Repeat("0", 100000), strings.Repeat("*", 100)}
	for b := range 256 {
		for _, ahead := range []string{"", "0", "0 ", "6 6", "0*", "0*1", "0*2", "RR", "RR\x01", "RR\x01\x01", "RR\x01\x01\x01", "RR\x01\x01\x00", "RR\x01\x01\x00\x01"} {
			list = append(list, ahead+string([]byte{byte(b)}), sealed(ahead+string([]byte{byte(b)})))
		}
	}
	for range 2000 {
		s := mustEncode(t, anyArtifact(&d))
		b := []byte(s)
		d.shake(b)
		list = append(list, s[:d.roll(len(s))], s+s[:d.roll(len(s))], string(b), sealed(string(b)))
		noise := make([]byte, d.roll(40))
		d.shake(noise)
		list = append(list, string(noise), sealed("RR\x01\x01"+string(noise)))
	}
	for _, s := range list {
		a, e := rerun.Decode(s)
		if e != api.OK && (e != api.ErrBytes || !isNoArtifact(a)) {
			t.Errorf("P1: Decode(%.100q): %v, %d", s, a, e)
		}
		l, at, e := rerun.Parse(s)
		if e == api.OK && at != 0 || e != api.OK && (e != api.ErrText || len(l) != 0) || at < 0 || at > len(s) {
			t.Errorf("P1: Parse(%.100q): %v, %d, %d", s, l, at, e)
		}
	}
}

// Bytes and texts are the same at each call, whatever is called in between or side by side.
func TestP1BytesAndTextsHangOnArguments(t *testing.T) {
	a := artifact(program(grow(), grow()), []int{0, 0, 1, 63}, wrong(3))
	bytes := mustEncode(t, a)
	same := func() bool {
		again, _ := rerun.Encode(a)
		read, _ := rerun.Decode(bytes)
		text, _ := rerun.Print(a.Schedule)
		list, _, _ := rerun.Parse("0*2 1 63")
		return again == bytes && equalArtifacts(read, a) && text == "0*2 1 63" && slices.Equal(list, a.Schedule)
	}
	for _, s := range []string{"", bytes[:9], bytes + "0", "0*501", "0 0"} {
		rerun.Decode(s)
		rerun.Parse(s)
		if !same() {
			t.Errorf("P1: other answers behind calls with %q", s)
		}
	}
	answers := make(chan bool)
	for range 8 {
		go func() { answers <- same() }()
	}
	for range 8 {
		if !<-answers {
			t.Errorf("P1: other answers side by side with others")
		}
	}
}

// What a call answers hangs on its arguments alone: not on calls before, not
// on who else calls, not on spare room.
func TestP1AnswersHangOnArguments(t *testing.T) {
	p, s := program(grow(), grow()), []int{0, 1, 0, 0, 0, 1, 1, 1}
	want := mustReplay(t, p, s)
	for _, q := range edgePrograms() {
		rerun.Replay(q, []int{0, 0, 0})
		if got := mustReplay(t, p, s); !equalResults(got, want) {
			t.Fatalf("P1: behind a run of %v: %v, want %v", q, got, want)
		}
	}
	roomy := append(make([]int, 0, 1000), s...)
	if got := mustReplay(t, p, roomy); !equalResults(got, want) {
		t.Errorf("P1: with spare room: %v, want %v", got, want)
	}
	answers := make(chan api.Result)
	for range 8 {
		go func() {
			r, _ := rerun.Replay(p, s)
			answers <- r
		}()
	}
	for range 8 {
		if got := <-answers; !equalResults(got, want) {
			t.Errorf("P1: side by side with others: %v, want %v", got, want)
		}
	}
}

// Form, Same and Shorten at each program, each schedule and each fuel of the
// edges: the first error that applies, with nothing beside it.
func TestP1FormSameShortenAtEdges(t *testing.T) {
	for _, p := range edgePrograms() {
		for _, a := range edgeSchedules() {
			first := edgeError(p, a)
			if form, e := rerun.Form(p, a); e != first || e != api.OK && len(form) != 0 {
				t.Errorf("P1: Form(%.100v, %d numbers): %v, %d, want %d", p, len(a), form, e, first)
			}
			for _, b := range edgeSchedules() {
				want := edgeError(p, a, b)
				if same, e := rerun.Same(p, a, b); e != want || e != api.OK && same {
					t.Errorf("P1: Same(%.100v, %d numbers, %d numbers): %v, %d, want %d", p, len(a), len(b), same, e, want)
				}
			}
			for _, fuel := range edgeNumbers {
				want := first
				if want == api.OK && fuel < 0 {
					want = api.ErrArg
				}
				short, runs, e := rerun.Shorten(p, a, fuel)
				if e != want || e != api.OK && (len(short) != 0 || runs != 0) {
					t.Errorf("P1: Shorten(%.100v, %d numbers, %d): %v, %d, %d, want %d", p, len(a), fuel, short, runs, e, want)
				}
			}
		}
	}
}

func edgeError(p api.Program, schedules ...[]int) api.Errno {
	if e := rerun.Check(p); e != api.OK {
		return e
	}
	for _, s := range schedules {
		if len(s) > 500 {
			return api.ErrArg
		}
	}
	return api.OK
}

// Programs and schedules of any numbers: no call panics, and each one ends.
func TestP1AnyFormSameShorten(t *testing.T) {
	d := dice(12)
	for range 3000 {
		p := anyProgram(&d)
		if d.roll(3) == 0 {
			spoilProgram(&d, p)
		}
		a, b := anyNumbers(&d), anyNumbers(&d)
		callAll(t, p, a, b, oneOf(&d, edgeNumbers...), "")
	}
}

// spoilProgram sets a few numbers of a program anew.
func spoilProgram(d *dice, p api.Program) {
	for _, c := range p.Threads {
		if len(c) > 0 {
			in := &c[d.roll(len(c))]
			*oneOf(d, &in.Op, &in.A, &in.B, &in.N) = oneOf(d, edgeNumbers...)
		}
	}
}

func anyNumbers(d *dice) []int {
	var s []int
	for range oneOf(d, 0, 1, 10, 100, 499, 500, 501) {
		s = append(s, oneOf(d, 0, 1, 2, 3, d.roll(4), d.roll(4)))
	}
	for range min(len(s), d.roll(3)) {
		s[d.roll(len(s))] = oneOf(d, edgeNumbers...)
	}
	return s
}

// Forms and shorter schedules are the same at each call, whatever is called
// in between or side by side, and with any spare room.
func TestP1FormSameShortenHangOnArguments(t *testing.T) {
	p, s := blocks(), []int{2, 0, 0, 2, 1, 1, 7}
	same := func(p api.Program, s []int) bool {
		form, _ := rerun.Form(p, s)
		is, _ := rerun.Same(p, s, []int{0, 2, 0, 2, 9})
		short, runs, _ := rerun.Shorten(p, s, 99)
		cut, cutRuns, _ := rerun.Shorten(p, s, 2)
		return slices.Equal(form, []int{0, 2, 0, 2}) && is && slices.Equal(short, []int{2, 2}) && runs == 6 && slices.Equal(cut, []int{2, 0, 2}) && cutRuns == 2
	}
	for _, q := range edgePrograms() {
		rerun.Form(q, []int{0, 0, 0})
		rerun.Same(q, s, s)
		rerun.Shorten(q, []int{0, 1, 0, 1}, 3)
		if !same(p, s) || !same(roomyProgram(p), roomySchedule(s)) {
			t.Fatalf("P1: other answers behind calls with %v", q)
		}
	}
	answers := make(chan bool)
	for range 8 {
		go func() { answers <- same(p, s) }()
	}
	for range 8 {
		if !<-answers {
			t.Errorf("P1: other answers side by side with others")
		}
	}
}
