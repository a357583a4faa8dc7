package rerun_test

import (
	"math/big"
	"slices"
	"testing"

	"rerun/api"
)

// model runs programs in another way than the program does, instruction by
// instruction, with numbers of any size that are cut to 64 bits.
type model struct {
	p     api.Program
	vars  [4]int
	regs  [4][4]int
	place [4]int
	owner map[int]int
}

func wrap(x *big.Int) int {
	low := new(big.Int).And(x, new(big.Int).SetUint64(1<<64-1))
	return int(low.Uint64())
}

func (m *model) ready(t int) bool {
	if t < 0 || t >= len(m.p.Threads) || m.place[t] >= len(m.p.Threads[t]) {
		return false
	}
	in := m.p.Threads[t][m.place[t]]
	_, taken := m.owner[in.A]
	return in.Op != api.Lock || !taken
}

func (m *model) does(t int) bool {
	in := m.p.Threads[t][m.place[t]]
	x, y := big.NewInt(int64(m.regs[t][in.A])), big.NewInt(int64(m.regs[t][in.B]))
	m.place[t]++
	switch in.Op {
	case api.Set:
		m.regs[t][in.A] = in.N
	case api.Load:
		m.regs[t][in.A] = m.vars[in.B]
	case api.Store:
		m.vars[in.A] = m.regs[t][in.B]
	case api.Add:
		m.regs[t][in.A] = wrap(x.Add(x, y))
	case api.Sub:
		m.regs[t][in.A] = wrap(x.Sub(x, y))
	case api.Mul:
		m.regs[t][in.A] = wrap(x.Mul(x, y))
	case api.Div:
		if y.Sign() == 0 {
			return false
		}
		m.regs[t][in.A] = wrap(x.Quo(x, y))
	case api.Jump:
		if x.Sign() == 0 {
			m.place[t] = in.N
		}
	case api.Lock:
		m.owner[in.A] = t
	case api.Unlock:
		if who, taken := m.owner[in.A]; !taken || who != t {
			return false
		}
		delete(m.owner, in.A)
	case api.Assert:
		return x.Sign() != 0
	}
	return true
}

func (m *model) atEnd() int {
	done, ready := 0, 0
	for t, c := range m.p.Threads {
		if m.place[t] == len(c) {
			done++
		}
		if m.ready(t) {
			ready++
		}
	}
	switch {
	case done == len(m.p.Threads):
		return api.Clean
	case ready == 0:
		return api.Stuck
	}
	return api.Open
}

// pick is mostly a thread that is ready, so that runs get long.
func (m *model) pick(d *dice) int {
	var list []int
	for t := range m.p.Threads {
		if m.ready(t) {
			list = append(list, t)
		}
	}
	if len(list) == 0 || d.roll(60) == 0 {
		return d.roll(7) - 1
	}
	return oneOf(d, list...)
}

// run makes a schedule of at most n numbers, and the result of its run.
func (m *model) run(d *dice, n int) (schedule []int, r api.Result) {
	for i := range n {
		if m.atEnd() != api.Open && d.roll(5) > 0 {
			break
		}
		t := m.pick(d)
		schedule = append(schedule, t)
		if !m.ready(t) {
			r.Verdict = wrong(i)
			break
		}
		at := m.place[t]
		r.Steps = append(r.Steps, api.Step{Thread: t, At: at})
		if !m.does(t) {
			r.Verdict = failed(t, at)
			break
		}
	}
	if r.Verdict.Kind == 0 {
		r.Verdict.Kind = m.atEnd()
	}
	r.Vars, r.Regs = m.vars, slices.Clone(m.regs[:len(m.p.Threads)])
	return schedule, r
}

func anyIns(d *dice, length int) api.Ins {
	r, q := d.roll(4), d.roll(4)
	n := oneOf(d, 0, 1, 2, -1, -7, 10, least, greatest, 1<<32, -1<<33+5)
	list := []api.Ins{
		set(r, n), set(r, n), load(r, q), store(r, q), add(r, q), sub(r, q), mul(r, q),
		jump(r, d.roll(length+1)), lock(d.roll(3)), unlock(d.roll(3)),
	}
	if d.roll(4) == 0 {
		list = append(list, div(r, q), assert(r))
	}
	return oneOf(d, list...)
}

func anyProgram(d *dice) api.Program {
	var p api.Program
	for range 1 + d.roll(4) {
		var c []api.Ins
		length := d.roll(17)
		for range length {
			c = append(c, anyIns(d, length))
		}
		p.Threads = append(p.Threads, c)
	}
	return p
}

func TestP3AgainstModel(t *testing.T) {
	d := dice(1)
	var kinds [6]int
	var ops [12]int
	for range 20000 {
		m := &model{p: anyProgram(&d), owner: map[int]int{}}
		schedule, want := m.run(&d, d.roll(120))
		got := mustReplay(t, m.p, schedule)
		if !equalResults(got, want) {
			t.Fatalf("P3: Replay(%v, %v): %+v, want %+v", m.p, schedule, got, want)
		}
		kinds[want.Verdict.Kind]++
		for _, s := range want.Steps {
			ops[m.p.Threads[s.Thread][s.At].Op]++
		}
	}
	if slices.Min(kinds[1:]) < 100 || slices.Min(ops[1:]) < 100 {
		t.Errorf("too few of some verdicts %v or instructions %v", kinds, ops)
	}
}
