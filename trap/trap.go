// Package trap is layer 2: see shared/doc/02-trap.md.
package trap

import "corduroy/api"

// thrown sets a thrown error apart from all other panics, also from one by a bare api.Errno.
type thrown struct {
	e api.Errno
}

// Throw throws an error.
func Throw(e api.Errno) {
	if e != api.OK {
		panic(thrown{e})
	}
}

// Check throws an error, unless something is so.
func Check(is bool, e api.Errno) {
	if !is {
		Throw(e)
	}
}

// Must throws an error, or is what comes with it.
func Must[T any](x T, e api.Errno) T {
	Throw(e)
	return x
}

// Try does something: the error that was thrown.
func Try(do func()) (e api.Errno) {
	defer func() {
		if r := recover(); r != nil {
			t, ok := r.(thrown)
			if !ok {
				panic(r)
			}
			e = t.e
		}
	}()
	do()
	return api.OK
}

// Get is what something answers, or the error that was thrown.
func Get[T any](do func() T) (T, api.Errno) {
	var x T
	e := Try(func() { x = do() })
	return x, e
}
