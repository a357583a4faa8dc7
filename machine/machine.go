// Package machine checks programs and runs them by schedules.
package machine

import "rerun/api"

// Machine is a program made ready to run, as often as one likes: a run leaves nothing behind in it.
type Machine struct {
	threads [][]move
}

// move is an instruction: what it does, and what it waits for.
type move struct {
	do    action
	waits bool // for the lock to be nobody's
	lock  int
}

// state is what a run changes.
type state struct {
	vars    [api.Variables]int
	holders [api.Locks]holder
	regs    [api.MaxThreads][api.Registers]int
	next    [api.MaxThreads]int
}

// holder says whose a lock is; nobody's at first.
type holder struct {
	held   bool
	thread int
}

// New makes the machine of a program, which must be valid.
func New(p api.Program) *Machine {
	m := &Machine{threads: make([][]move, len(p.Threads))}
	for t, code := range p.Threads {
		for _, in := range code {
			m.threads[t] = append(m.threads[t], makeMove(t, in))
		}
	}
	return m
}

func makeMove(t int, in api.Ins) move {
	v := move{do: makeAction(t, in)}
	if in.Op == api.Lock {
		v.waits = true
		v.lock = in.A
	}
	return v
}

// Run runs the program by a schedule.
func (m *Machine) Run(schedule []int) api.Result {
	var s state
	steps, verdict := m.follow(&s, schedule)
	regs := make([][api.Registers]int, len(m.threads))
	copy(regs, s.regs[:])
	return api.Result{Verdict: verdict, Steps: steps, Vars: s.vars, Regs: regs}
}

func (m *Machine) follow(s *state, schedule []int) ([]api.Step, api.Verdict) {
	steps := make([]api.Step, 0, len(schedule))
	for i, t := range schedule {
		if !below(t, len(m.threads)) || !m.ready(s, t) {
			return steps, api.Verdict{Kind: api.Wrong, At: i}
		}
		at := s.next[t]
		steps = append(steps, api.Step{Thread: t, At: at})
		if !m.step(s, t) {
			return steps, api.Verdict{Kind: api.Failed, Thread: t, At: at}
		}
	}
	return steps, api.Verdict{Kind: m.ending(s)}
}

// step does the next instruction of a thread that is ready.
func (m *Machine) step(s *state, t int) bool {
	at := s.next[t]
	// Ahead of the action, because a Jump sets it anew.
	s.next[t] = at + 1
	return m.threads[t][at].do(s)
}

func (m *Machine) done(s *state, t int) bool {
	return s.next[t] == len(m.threads[t])
}

func (m *Machine) ready(s *state, t int) bool {
	if m.done(s, t) {
		return false
	}
	v := m.threads[t][s.next[t]]
	return !v.waits || !s.holders[v.lock].held
}

// ending is the kind of verdict on a run that came to the end of its schedule.
func (m *Machine) ending(s *state) int {
	end := api.Clean
	for t := range m.threads {
		if m.ready(s, t) {
			return api.Open
		}
		if !m.done(s, t) {
			end = api.Stuck
		}
	}
	return end
}
