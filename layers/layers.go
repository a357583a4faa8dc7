// Package layers: the layers in which the steps of a run stand, and the form of a schedule that is made of them.
package layers

import (
	"cmp"
	"slices"

	"rerun/api"
)

// placed is a step of a thread, in its layer.
type placed struct {
	layer, thread int
}

func compare(a, b placed) int {
	return cmp.Or(cmp.Compare(a.layer, b.layer), cmp.Compare(a.thread, b.thread))
}

// Form is the form of a schedule by which the program p ran to the result r.
func Form(p api.Program, r api.Result) []int {
	list := place(p, r)
	// No two steps of one thread stand in one layer, so that this leaves nothing to chance.
	slices.SortFunc(list, compare)
	form := make([]int, len(list))
	for i, s := range list {
		form[i] = s.thread
	}
	return form
}

// place puts each step of a run into its layer.
func place(p api.Program, r api.Result) []placed {
	list := make([]placed, len(r.Steps))
	past := history{}
	height := 0
	for i, s := range r.Steps {
		uses := usesOf(s.Thread, p.Threads[s.Thread][s.At])
		layer := past.ahead(uses)
		if i == len(r.Steps)-1 && r.Verdict.Kind == api.Failed {
			// It depends on all steps, and as the last one none needs to look back at it.
			layer = height
		}
		past.enter(uses, layer)
		height = max(height, layer+1)
		list[i] = placed{layer: layer, thread: s.Thread}
	}
	return list
}
