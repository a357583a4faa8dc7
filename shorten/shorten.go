// Package shorten leaves out of a schedule what its verdict does not need.
package shorten

import (
	"slices"

	"rerun/api"
	"rerun/machine"
)

// Schedule makes a schedule shorter by at most as many trials as there is
// fuel; it answers the shorter one, and how many trials it took.
func Schedule(m *machine.Machine, schedule []int, fuel int) ([]int, int) {
	first := m.Run(schedule)
	short := slices.Concat(schedule[:lengthOf(first)])
	runs := 0
	for i := 0; i < len(short) && runs < fuel; runs++ {
		trial := slices.Concat(short[:i], short[i+1:])
		if machine.SameVerdict(m.Run(trial).Verdict, first.Verdict) {
			short = trial
			i = 0
		} else {
			i++
		}
	}
	return short, runs
}

// lengthOf tells how many numbers of its schedule a run came to.
func lengthOf(r api.Result) int {
	if r.Verdict.Kind == api.Wrong {
		// The wrong number is no step, but without it the verdict were another one.
		return len(r.Steps) + 1
	}
	return len(r.Steps)
}
