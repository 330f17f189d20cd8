// Package whole reads a column from its head to its end: what columns of numbers and of reals have in common.
package whole

import (
	"corduroy/api"
	"corduroy/cursor"
	"corduroy/trap"
)

// mark is how many bytes tell the end from a frame: of the end they are 0.
const mark = 4

// Head is what is wrong with what bytes begin with, where a head is to be.
func Head(b, head []byte) api.Errno {
	for i := range min(len(b), len(head)) {
		if b[i] != head[i] {
			return api.ErrForm
		}
	}
	if len(b) < len(head) {
		return api.ErrShort
	}
	return api.OK
}

// AtEnd: do bytes begin with the end, and not with a frame? It throws ErrShort, if they are too few to tell.
func AtEnd(b []byte) bool { return cursor.New(b[:min(mark, len(b))]).U32() == 0 }

// Read is all that a column's frames have; next reads a frame, or the end, as layer 16's Next does.
func Read[T any](b, head []byte, next func(b []byte, full bool, n int) ([]T, int, bool, api.Errno)) ([]T, api.Errno) {
	return trap.Get(func() []T {
		trap.Throw(Head(b, head))
		rest := b[len(head):]
		var l []T
		full, over := true, false
		for !over {
			block, size, end, e := next(rest, full, len(l))
			trap.Throw(e)
			l = append(l, block...)
			rest = rest[size:]
			full, over = len(block) == api.MaxBlock, end
		}
		trap.Check(len(rest) == 0, api.ErrLong)
		return l
	})
}
