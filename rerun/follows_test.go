package rerun_test

import (
	"slices"
	"testing"

	"rerun/api"
	"rerun/rerun"
)

// The form runs to the same verdict, variables and registers, and is its own
// form. The number that is wrong is no step, so that a Wrong one's form ends otherwise.
func TestP8FormRunsToTheSame(t *testing.T) {
	d := dice(8)
	var kinds [6]int
	for range 20000 {
		p, s := anyRun(&d, 60)
		form := mustForm(t, p, s)
		r, f := mustReplay(t, p, s), mustReplay(t, p, form)
		if r.Verdict.Kind != api.Wrong && f.Verdict != r.Verdict {
			t.Fatalf("P8: %v by %v: %v, but by its form %v: %v", p, s, r.Verdict, form, f.Verdict)
		}
		if f.Vars != r.Vars || !slices.Equal(f.Regs, r.Regs) || len(f.Steps) != len(r.Steps) {
			t.Fatalf("P8: %v by %v: %v, but by its form %v: %v", p, s, r, form, f)
		}
		if again := mustForm(t, p, form); !slices.Equal(again, form) {
			t.Fatalf("P8: %v: the form of %v is %v, and of that %v", p, s, form, again)
		}
		if r.Verdict.Kind != api.Wrong && !mustSame(t, p, s, form) {
			t.Fatalf("P8: %v: %v and its form %v are not the same", p, s, form)
		}
		kinds[r.Verdict.Kind]++
	}
	if slices.Min(kinds[1:]) < 100 {
		t.Errorf("too few of some verdicts: %v", kinds)
	}
}

// Two steps side by side change places: the form stays, if they do not depend
// on one another. Those of two threads that do are told apart.
func TestP8StepsChangePlaces(t *testing.T) {
	d := dice(88)
	free, bound := 0, 0
	for range 5000 {
		p, s := anyRun(&d, 40)
		form, r := mustForm(t, p, s), mustReplay(t, p, s)
		for i := range len(r.Steps) - 1 {
			other := slices.Clone(s)
			other[i], other[i+1] = s[i+1], s[i]
			switch {
			case !depend(p, r, i, i+1):
				free++
				if got := mustForm(t, p, other); !slices.Equal(got, form) || !mustSame(t, p, s, other) {
					t.Fatalf("P8: %v: the form of %v is %v, but of %v %v", p, s, form, other, got)
				}
			case s[i] != s[i+1]:
				bound++
				if mustSame(t, p, s, other) {
					t.Fatalf("P6: %v: %v and %v are the same, but steps at %d depend", p, s, other, i)
				}
			}
		}
	}
	if free < 5000 || bound < 1000 {
		t.Errorf("too few of some: %d do not depend, %d do", free, bound)
	}
}

// Many changes of places, one behind the other: the form stays.
func TestP8ManyStepsChangePlaces(t *testing.T) {
	d := dice(888)
	changed := 0
	for range 2000 {
		p, s := anyRun(&d, 40)
		form, other := mustForm(t, p, s), slices.Clone(s)
		for range 40 {
			r := mustReplay(t, p, other)
			if len(r.Steps) < 2 {
				break
			}
			if i := d.roll(len(r.Steps) - 1); !depend(p, r, i, i+1) {
				other[i], other[i+1] = other[i+1], other[i]
				changed++
			}
		}
		if got := mustForm(t, p, other); !slices.Equal(got, form) || !mustSame(t, p, s, other) {
			t.Fatalf("P8: %v: the form of %v is %v, but of %v %v", p, s, form, other, got)
		}
	}
	if changed < 5000 {
		t.Errorf("too few changes: %d", changed)
	}
}

func TestP8ShortenedSchedules(t *testing.T) {
	d := dice(80)
	var kinds [6]int
	for range 5000 {
		p, s := anyRun(&d, 40)
		verdict := mustReplay(t, p, s).Verdict
		for _, fuel := range []int{0, 1, d.roll(30), 300, greatest} {
			short, runs, e := rerun.Shorten(p, s, fuel)
			if e != api.OK || len(short) > len(s) || runs < 0 || runs > fuel {
				t.Fatalf("P8: Shorten(%v, %v, %d): %v, %d, %d", p, s, fuel, short, runs, e)
			}
			if got := mustReplay(t, p, short).Verdict; !sameByWords(got, verdict) {
				t.Fatalf("P8: %v: %v ended as %v, but %v as %v", p, s, verdict, short, got)
			}
			if runs < fuel {
				nothingLeftOut(t, p, short)
				kinds[verdict.Kind]++
			}
		}
	}
	if slices.Min(kinds[1:]) < 100 {
		t.Errorf("too few of some verdicts: %v", kinds)
	}
}

// nothingLeftOut: without any one of its numbers the schedule has another verdict.
func nothingLeftOut(t *testing.T, p api.Program, short []int) {
	t.Helper()
	verdict := mustReplay(t, p, short).Verdict
	for i := range short {
		less := slices.Delete(slices.Clone(short), i, i+1)
		if sameByWords(mustReplay(t, p, less).Verdict, verdict) {
			t.Fatalf("P8: %v: of %v the number at %d could be left out", p, short, i)
		}
	}
}
