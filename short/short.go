// Package short has what several codecs have in common: short bytes (layer 4) off a cursor (layer 3), places written by them, and rows of zigzags.
package short

import (
	"iter"

	"corduroy/api"
	"corduroy/cursor"
	"corduroy/trap"
	"corduroy/varint"
)

// most is how many short bytes a number has at the most.
const most = 10

// Next is the next number of short bytes; it throws layer 4's Get's error of what is left.
func Next(c *cursor.Cursor) uint64 {
	var room [most]byte
	v, _, e := varint.Get(digits(c, room[:0]))
	return trap.Must(v, e)
}

// Places is a walk through exceptions' places, below n: how many there are, and of each how many stand between the one ahead and it.
// What else is written of an exception whoever walks reads off the cursor ahead of the next one.
func Places(c *cursor.Cursor, n int) iter.Seq[int] {
	return func(yield func(int) bool) {
		count := Next(c)
		trap.Check(count <= uint64(n), api.ErrCount)
		place := 0
		for range count {
			gap := Next(c)
			trap.Check(gap < uint64(n-place), api.ErrRange)
			place += int(gap)
			if !yield(place) {
				return
			}
			place++
		}
	}
}

// Zigs are numbers' zigzags.
func Zigs(l []int64) []uint64 {
	zigs := make([]uint64, len(l))
	for i, v := range l {
		zigs[i] = varint.Zig(v)
	}
	return zigs
}

// Zags are the numbers of zigzags.
func Zags(zigs []uint64) []int64 {
	l := make([]int64, len(zigs))
	for i, z := range zigs {
		l[i] = varint.Zag(z)
	}
	return l
}

// digits are as many bytes as Get looks at: to Peek at all that are left would copy them for each number.
func digits(c *cursor.Cursor, b []byte) []byte {
	for len(b) < most && c.Left() > 0 {
		digit := c.U8()
		b = append(b, digit)
		if digit < 128 {
			break
		}
	}
	return b
}
