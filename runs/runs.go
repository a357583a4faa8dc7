// Package runs: the runs of a schedule (one thread's numbers side by side), and the text that is made of them.
package runs

import "rerun/api"

// Run is a thread and how often it comes side by side.
type Run struct {
	Thread, Count int
}

// Valid tells whether a schedule has bytes and a text: it is not too long, and
// each of its numbers may be written (be there such a thread or not).
func Valid(schedule []int) bool {
	if len(schedule) > api.MaxSchedule {
		return false
	}
	for _, t := range schedule {
		if t < 0 || t > api.MaxNumber {
			return false
		}
	}
	return true
}

// Of splits a schedule into its runs, each as long as can be.
func Of(schedule []int) []Run {
	var list []Run
	for i, t := range schedule {
		if i == 0 || t != schedule[i-1] {
			list = append(list, Run{Thread: t})
		}
		list[len(list)-1].Count++
	}
	return list
}

// Append puts a run behind a schedule.
func Append(schedule []int, r Run) []int {
	for range r.Count {
		schedule = append(schedule, r.Thread)
	}
	return schedule
}
