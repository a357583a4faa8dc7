package artifact

import (
	"rerun/api"
	"rerun/runs"
)

// Write makes the bytes of an artifact, in which Check must have found nothing.
func Write(a api.Artifact) string {
	w := writer{bytes: []byte(head)}
	w.program(a.Program)
	w.schedule(a.Schedule)
	w.verdict(a.Verdict)
	w.check()
	return string(w.bytes)
}

type writer struct {
	bytes []byte
}

func (w *writer) program(p api.Program) {
	w.whole(len(p.Threads))
	for _, code := range p.Threads {
		w.whole(len(code))
		for _, in := range code {
			w.whole(in.Op)
			w.whole(in.A)
			w.whole(in.B)
			w.signed(in.N)
		}
	}
}

func (w *writer) schedule(schedule []int) {
	list := runs.Of(schedule)
	w.whole(len(list))
	for _, r := range list {
		w.whole(r.Thread)
		w.whole(r.Count)
	}
}

func (w *writer) verdict(v api.Verdict) {
	w.whole(v.Kind)
	w.whole(v.Thread)
	w.whole(v.At)
}

func (w *writer) check() {
	c := checkOf(string(w.bytes))
	for i := range checkSize {
		w.bytes = append(w.bytes, byte(c>>(8*i)))
	}
}

// whole writes a number from 0 on.
func (w *writer) whole(n int) {
	w.number(uint64(n))
}

// signed writes a number that may be below 0.
func (w *writer) signed(n int) {
	double := uint64(n) << 1
	if n < 0 {
		// Turning all bits of 2n is -2n - 1, at the least number too.
		double = ^double
	}
	w.number(double)
}

func (w *writer) number(n uint64) {
	for n > 127 {
		w.bytes = append(w.bytes, byte(n)|128)
		n >>= 7
	}
	w.bytes = append(w.bytes, byte(n))
}
