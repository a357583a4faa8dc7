package artifact

import (
	"math"

	"rerun/api"
	"rerun/runs"
)

// refusal is what a reader panics with when it gives up: the error that the call answers.
type refusal api.Errno

// Read reads the bytes of an artifact, and refuses all that Write does not write.
func Read(bytes string) (a api.Artifact, e api.Errno) {
	defer func() {
		switch why := recover().(type) {
		case nil:
		case refusal:
			a, e = api.Artifact{}, api.Errno(why)
		default:
			// A fault of the program itself is not to be taken for bad bytes.
			panic(why)
		}
	}()
	r := reader{bytes: bytes}
	return r.artifact(), api.OK
}

// must gives up, however deep inside a reader is, unless ok.
func must(ok bool) {
	if !ok {
		panic(refusal(api.ErrBytes))
	}
}

type reader struct {
	bytes string
	at    int
}

func (r *reader) artifact() api.Artifact {
	var a api.Artifact
	r.head()
	a.Program = r.program()
	a.Schedule = r.schedule()
	a.Verdict = r.verdict()
	r.check()
	must(r.at == len(r.bytes))
	must(Check(a) == api.OK)
	return a
}

func (r *reader) head() {
	for i := range len(head) {
		must(r.next() == head[i])
	}
}

// The readers of lists hold to bounds how long these are, so that none grows
// without end; what stands in them Check looks at.

func (r *reader) program() api.Program {
	var p api.Program
	for range r.atMost(api.MaxThreads) {
		p.Threads = append(p.Threads, r.thread())
	}
	return p
}

func (r *reader) thread() []api.Ins {
	var code []api.Ins
	for range r.atMost(api.MaxCode) {
		code = append(code, r.instruction())
	}
	return code
}

func (r *reader) instruction() api.Ins {
	var in api.Ins
	in.Op = r.whole()
	in.A = r.whole()
	in.B = r.whole()
	in.N = r.signed()
	return in
}

func (r *reader) schedule() []int {
	var schedule []int
	for i := range r.atMost(api.MaxSchedule) {
		run := r.run(api.MaxSchedule - len(schedule))
		// Else the two were written as one.
		must(i == 0 || run.Thread != schedule[len(schedule)-1])
		schedule = runs.Append(schedule, run)
	}
	return schedule
}

// run reads a run for which there is so much room.
func (r *reader) run(room int) runs.Run {
	var run runs.Run
	run.Thread = r.whole()
	run.Count = r.atMost(room)
	must(run.Count > 0)
	return run
}

func (r *reader) verdict() api.Verdict {
	var v api.Verdict
	v.Kind = r.whole()
	v.Thread = r.whole()
	v.At = r.whole()
	return v
}

func (r *reader) check() {
	c := checkOf(r.bytes[:r.at])
	for i := range checkSize {
		must(r.next() == byte(c>>(8*i)))
	}
}

// atMost reads a number from 0 on that is not above the bound.
func (r *reader) atMost(bound int) int {
	n := r.whole()
	must(n <= bound)
	return n
}

// whole reads a number from 0 on.
func (r *reader) whole() int {
	n := r.number()
	must(n <= math.MaxInt)
	return int(n)
}

// signed reads a number that may be below 0.
func (r *reader) signed() int {
	n := r.number()
	if n&1 == 1 {
		return int(^(n >> 1))
	}
	return int(n >> 1)
}

func (r *reader) number() uint64 {
	var n uint64
	for place := 0; ; place += 7 {
		b := r.next()
		part := uint64(b & 127)
		must(place < 64 && part<<place>>place == part)
		n |= part << place
		if b < 128 {
			// A last byte of 0 says nothing: without it there were fewer.
			must(b > 0 || place == 0)
			return n
		}
	}
}

func (r *reader) next() byte {
	must(r.at < len(r.bytes))
	r.at++
	return r.bytes[r.at-1]
}
