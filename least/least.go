// Package least tells which of several is the least.
package least

import "iter"

// Of is the first of a walk's that are the least by a measure, and true; nothing and false, if the walk has none.
func Of[T any](walk iter.Seq[T], measure func(T) int) (T, bool) {
	var best T
	some := false
	for x := range walk {
		if !some || measure(x) < measure(best) {
			best, some = x, true
		}
	}
	return best, some
}
