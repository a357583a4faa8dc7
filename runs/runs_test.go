package runs

import (
	"slices"
	"testing"
)

func TestRunsOfASchedule(t *testing.T) {
	for _, c := range []struct {
		schedule []int
		want     []Run
	}{
		{nil, nil}, {[]int{5}, []Run{{5, 1}}}, {[]int{0, 0}, []Run{{0, 2}}}, {[]int{0, 1, 0}, []Run{{0, 1}, {1, 1}, {0, 1}}}, {[]int{-1, -1, 2, 2, 2}, []Run{{-1, 2}, {2, 3}}},
	} {
		list := Of(c.schedule)
		if !slices.Equal(list, c.want) {
			t.Errorf("%v: %v, want %v", c.schedule, list, c.want)
		}
		var again []int
		for _, r := range list {
			again = Append(again, r)
		}
		if !slices.Equal(again, c.schedule) {
			t.Errorf("%v: put together again %v", c.schedule, again)
		}
	}
}
