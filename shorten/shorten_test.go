package shorten

import (
	"slices"
	"testing"

	"rerun/api"
	"rerun/machine"
)

// One machine makes many schedules shorter: no trial leaves anything to the next one.
func TestOneMachineForAll(t *testing.T) {
	m := machine.New(api.Program{Threads: [][]api.Ins{
		{{Op: api.Lock, A: 0}, {Op: api.Unlock, A: 0}},
		{{Op: api.Lock, A: 0}, {Op: api.Assert, A: 0}},
	}})
	for range 3 {
		for _, c := range []struct {
			schedule []int
			fuel     int
			want     []int
			runs     int
		}{
			{[]int{0, 1, 1}, 9, []int{0, 1}, 2},
			{[]int{0, 0, 1, 1}, 9, []int{0, 0, 1, 1}, 4},
			{[]int{1, 1, 0}, 9, []int{1, 1}, 2},
			{[]int{0, 0, 1}, 9, nil, 5},
			{[]int{0, 0, 1}, 3, []int{0, 0}, 3},
		} {
			short, runs := Schedule(m, c.schedule, c.fuel)
			if !slices.Equal(short, c.want) || runs != c.runs {
				t.Errorf("%v, fuel %d: %v, %d runs, want %v, %d", c.schedule, c.fuel, short, runs, c.want, c.runs)
			}
		}
	}
}
