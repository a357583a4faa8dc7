// Package rerun: schedules of threads, run again, made shorter, and told apart: see DOC.md.
package rerun

import (
	"slices"

	"rerun/api"
	"rerun/artifact"
	"rerun/layers"
	"rerun/machine"
	"rerun/runs"
	"rerun/shorten"
)

// Check tells whether a program is one (P3).
func Check(p api.Program) api.Errno {
	if !machine.Valid(p) {
		return api.ErrProgram
	}
	return api.OK
}

// Replay runs a program by a schedule (P3).
func Replay(p api.Program, schedule []int) (api.Result, api.Errno) {
	if e := checkRun(p, schedule); e != api.OK {
		return api.Result{}, e
	}
	return machine.New(p).Run(schedule), api.OK
}

// checkRun tells what keeps a program from being run by schedules: the
// program is looked at first, whatever the schedules are.
func checkRun(p api.Program, schedules ...[]int) api.Errno {
	if e := Check(p); e != api.OK {
		return e
	}
	for _, s := range schedules {
		if len(s) > api.MaxSchedule {
			return api.ErrArg
		}
	}
	return api.OK
}

// Encode writes an artifact (P4).
func Encode(a api.Artifact) (string, api.Errno) {
	if e := artifact.Check(a); e != api.OK {
		return "", e
	}
	return artifact.Write(a), api.OK
}

// Decode reads an artifact (P4).
func Decode(bytes string) (api.Artifact, api.Errno) {
	return artifact.Read(bytes)
}

// Print writes a schedule (P5).
func Print(schedule []int) (string, api.Errno) {
	if !runs.Valid(schedule) {
		return "", api.ErrArg
	}
	return runs.Print(schedule), api.OK
}

// Parse reads a schedule (P5).
func Parse(text string) ([]int, int, api.Errno) {
	schedule, at, ok := runs.Parse(text)
	if !ok {
		return nil, at, api.ErrText
	}
	return schedule, 0, api.OK
}

// Form is a schedule's form (P6).
func Form(p api.Program, schedule []int) ([]int, api.Errno) {
	if e := checkRun(p, schedule); e != api.OK {
		return nil, e
	}
	return layers.Form(p, machine.New(p).Run(schedule)), api.OK
}

// Same tells whether two schedules are the same (P6).
func Same(p api.Program, a []int, b []int) (bool, api.Errno) {
	if e := checkRun(p, a, b); e != api.OK {
		return false, e
	}
	m := machine.New(p)
	x, y := m.Run(a), m.Run(b)
	if !machine.SameVerdict(x.Verdict, y.Verdict) {
		return false, api.OK
	}
	return slices.Equal(layers.Form(p, x), layers.Form(p, y)), api.OK
}

// Shorten makes a schedule shorter (P7).
func Shorten(p api.Program, schedule []int, fuel int) ([]int, int, api.Errno) {
	if e := checkRun(p, schedule); e != api.OK {
		return nil, 0, e
	}
	if fuel < 0 {
		return nil, 0, api.ErrArg
	}
	short, runs := shorten.Schedule(machine.New(p), schedule, fuel)
	return short, runs, api.OK
}
