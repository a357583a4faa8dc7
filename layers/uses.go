package layers

import "rerun/api"

// kind is what steps have in common.
type kind int

const (
	thread kind = iota
	variable
	lock
)

// use is how a step uses something that others may use too. Two steps depend
// on one another if they use the same and at least one of them writes it.
type use struct {
	kind   kind
	number int
	writes bool
}

// usesOf are the uses that an instruction of the thread t makes. Steps of one
// thread, or of one lock, always depend on one another: all of them write it.
func usesOf(t int, in api.Ins) []use {
	own := use{kind: thread, number: t, writes: true}
	switch in.Op {
	case api.Load:
		return []use{own, {kind: variable, number: in.B}}
	case api.Store:
		return []use{own, {kind: variable, number: in.A, writes: true}}
	case api.Lock, api.Unlock:
		return []use{own, {kind: lock, number: in.A, writes: true}}
	default:
		return []use{own}
	}
}

// history tells of each use how many layers there are up to the highest step that made it.
type history map[use]int

// ahead tells how many layers there are up to the highest step on which one
// with these uses depends: that is the layer in which it stands itself.
func (h history) ahead(uses []use) int {
	n := 0
	for _, u := range uses {
		n = max(n, h[use{kind: u.kind, number: u.number, writes: true}])
		if u.writes {
			n = max(n, h[use{kind: u.kind, number: u.number}])
		}
	}
	return n
}

// enter notes the uses of a step of that layer.
func (h history) enter(uses []use, layer int) {
	for _, u := range uses {
		// The last one that read is not always the highest one: those that read do not depend on one another.
		h[u] = max(h[u], layer+1)
	}
}
