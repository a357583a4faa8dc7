package machine

import "rerun/api"

// SameVerdict tells whether two runs ended in the same way. Where a schedule
// goes wrong does not count: it says where the number stands, not what happened.
func SameVerdict(a, b api.Verdict) bool {
	if a.Kind == api.Wrong {
		return b.Kind == api.Wrong
	}
	return a == b
}
