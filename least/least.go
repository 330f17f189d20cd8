// Package least tells which of several is the least.
package least

import "iter"

// Of is the first of a walk's that are the least by a measure, and true; nothing and false, if the walk has none.
func Of[T any](walk iter.Seq[T], measure func(T) int) (T, bool) {
	var best T
	fewest, some := 0, false
	for x := range walk {
		if n := measure(x); !some || n < fewest {
			best, fewest, some = x, n, true
		}
	}
	return best, some
}
