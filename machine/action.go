package machine

import "rerun/api"

// action is what an instruction does. It answers false if it fails; then it has changed nothing.
type action func(s *state) bool

// makeAction makes the closure of an instruction of the thread t. The
// instruction is of a valid program, so that no closure looks at bounds again.
func makeAction(t int, in api.Ins) action {
	a, b := in.A, in.B
	switch in.Op {
	case api.Set:
		return set(t, a, in.N)
	case api.Load:
		return load(t, a, b)
	case api.Store:
		return store(t, a, b)
	case api.Add:
		return compute(t, a, b, func(x, y int) int { return x + y })
	case api.Sub:
		return compute(t, a, b, func(x, y int) int { return x - y })
	case api.Mul:
		return compute(t, a, b, func(x, y int) int { return x * y })
	case api.Div:
		return divide(t, a, b)
	case api.Jump:
		return jump(t, a, in.N)
	case api.Lock:
		return take(t, a)
	case api.Unlock:
		return release(t, a)
	default:
		return assert(t, a)
	}
}

func set(t, r, n int) action {
	return func(s *state) bool {
		s.regs[t][r] = n
		return true
	}
}

func load(t, r, v int) action {
	return func(s *state) bool {
		s.regs[t][r] = s.vars[v]
		return true
	}
}

func store(t, v, r int) action {
	return func(s *state) bool {
		s.vars[v] = s.regs[t][r]
		return true
	}
}

func compute(t, a, b int, f func(x, y int) int) action {
	return func(s *state) bool {
		s.regs[t][a] = f(s.regs[t][a], s.regs[t][b])
		return true
	}
}

func divide(t, a, b int) action {
	return func(s *state) bool {
		if s.regs[t][b] == 0 {
			return false
		}
		// Go's division goes towards 0 and answers the least number for the least number by -1.
		s.regs[t][a] /= s.regs[t][b]
		return true
	}
}

func jump(t, r, n int) action {
	return func(s *state) bool {
		if s.regs[t][r] == 0 {
			s.next[t] = n
		}
		return true
	}
}

func take(t, l int) action {
	return func(s *state) bool {
		s.holders[l] = holder{held: true, thread: t}
		return true
	}
}

func release(t, l int) action {
	mine := holder{held: true, thread: t}
	return func(s *state) bool {
		if s.holders[l] != mine {
			return false
		}
		s.holders[l] = holder{}
		return true
	}
}

func assert(t, r int) action {
	return func(s *state) bool {
		return s.regs[t][r] != 0
	}
}
