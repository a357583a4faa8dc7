// Package artifact: the bytes of an artifact, written and read.
package artifact

import (
	"rerun/api"
	"rerun/machine"
	"rerun/runs"
)

// head is what the bytes of every artifact begin with.
const head = "RR\x01"

// checkSize is how many bytes the check has.
const checkSize = 4

// Check tells what keeps an artifact from having bytes: the program is looked
// at first.
func Check(a api.Artifact) api.Errno {
	if !machine.Valid(a.Program) {
		return api.ErrProgram
	}
	if !runs.Valid(a.Schedule) || !validVerdict(a.Verdict) {
		return api.ErrArg
	}
	return api.OK
}

// validVerdict looks at bounds alone: whether the program's run by the
// schedule ends so is not asked.
func validVerdict(v api.Verdict) bool {
	return within(v.Kind, api.Failed, api.Open) && within(v.Thread, 0, api.MaxThreads-1) && within(v.At, 0, api.MaxSchedule)
}

func within(x, low, high int) bool {
	return low <= x && x <= high
}

// checkOf is the check of the bytes.
func checkOf(bytes string) uint32 {
	c := uint32(4294967295)
	for i := range len(bytes) {
		c ^= uint32(bytes[i])
		for range 8 {
			c = shift(c)
		}
	}
	return ^c
}

func shift(c uint32) uint32 {
	if c&1 == 1 {
		return c>>1 ^ 3988292384
	}
	return c >> 1
}
