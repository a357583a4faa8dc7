package layers

import (
	"slices"
	"testing"

	"rerun/api"
	"rerun/machine"
)

// The layers themselves, of which a form shows the order alone.
func TestLayersOfSteps(t *testing.T) {
	p := api.Program{Threads: [][]api.Ins{
		{{Op: api.Store, A: 0, B: 0}, {Op: api.Lock, A: 0}, {Op: api.Assert, A: 0}},
		{{Op: api.Set, A: 0}, {Op: api.Load, A: 0, B: 0}, {Op: api.Load, A: 0, B: 0}},
		{{Op: api.Load, A: 1, B: 0}, {Op: api.Lock, A: 0}, {Op: api.Unlock, A: 0}},
	}}
	for _, c := range []struct {
		schedule, want []int
	}{
		{nil, nil},
		{[]int{9}, nil},
		{[]int{1, 1, 2, 0}, []int{0, 1, 0, 2}},
		{[]int{1, 1, 0, 2, 1}, []int{0, 1, 2, 3, 3}},
		{[]int{2, 2, 2, 0, 0}, []int{0, 1, 2, 1, 3}},
		{[]int{1, 0, 0, 0, 2}, []int{0, 0, 1, 2}},
		{[]int{1, 1, 1, 2, 0, 0, 0}, []int{0, 1, 2, 0, 3, 4, 5}},
		{[]int{0, 0, 1, 1, 1, 2, 0}, []int{0, 1, 0, 1, 2, 1, 3}},
	} {
		var got []int
		for _, s := range place(p, machine.New(p).Run(c.schedule)) {
			got = append(got, s.layer)
		}
		if !slices.Equal(got, c.want) {
			t.Errorf("%v: layers %v, want %v", c.schedule, got, c.want)
		}
	}
}
