package machine

import "rerun/api"

// kind is what a number of an instruction names.
type kind int

const (
	nothing kind = iota
	register
	variable
	lock
	place
	number
)

// shape says what A, B and N of an instruction name.
type shape struct {
	a, b, n kind
}

// shapes has a row for each Op. No instruction has the Op 0: its row is never read.
var shapes = [api.Assert + 1]shape{
	api.Set:    {a: register, n: number},
	api.Load:   {a: register, b: variable},
	api.Store:  {a: variable, b: register},
	api.Add:    {a: register, b: register},
	api.Sub:    {a: register, b: register},
	api.Mul:    {a: register, b: register},
	api.Div:    {a: register, b: register},
	api.Jump:   {a: register, n: place},
	api.Lock:   {a: lock},
	api.Unlock: {a: lock},
	api.Assert: {a: register},
}

// Valid tells whether p is a program.
func Valid(p api.Program) bool {
	if len(p.Threads) < 1 || len(p.Threads) > api.MaxThreads {
		return false
	}
	for _, code := range p.Threads {
		if !validThread(code) {
			return false
		}
	}
	return true
}

func validThread(code []api.Ins) bool {
	if len(code) > api.MaxCode {
		return false
	}
	for _, in := range code {
		if !validIns(in, len(code)) {
			return false
		}
	}
	return true
}

func validIns(in api.Ins, length int) bool {
	if in.Op < api.Set || in.Op > api.Assert {
		return false
	}
	s := shapes[in.Op]
	return fits(s.a, in.A, length) && fits(s.b, in.B, length) && fits(s.n, in.N, length)
}

// fits tells whether x may stand where k is named, in a thread of that length.
func fits(k kind, x, length int) bool {
	switch k {
	case register:
		return below(x, api.Registers)
	case variable:
		return below(x, api.Variables)
	case lock:
		return below(x, api.Locks)
	case place:
		// The length itself is a place too: who jumps there is done.
		return below(x, length+1)
	case number:
		return true
	default:
		return x == 0
	}
}

func below(x, bound int) bool {
	return x >= 0 && x < bound
}
