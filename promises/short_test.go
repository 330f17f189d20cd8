package promises

import (
	"bytes"
	"testing"

	"corduroy/api"
	"corduroy/cursor"
	"corduroy/short"
)

func TestShortNext(t *testing.T) {
	c := cursor.New([]byte{172, 2, 0, 127, 128})
	is(t, "Next", short.Next(c), 300)
	is(t, "At", c.At(), 2)
	is(t, "Next", short.Next(c), 0)
	is(t, "Next", short.Next(c), 127)
	thrown(t, "Next of too few", func() { short.Next(c) }, api.ErrShort)
	for _, x := range []struct {
		b []byte
		e api.Errno
	}{{nil, api.ErrShort}, {[]byte{128, 0}, api.ErrOver}, {bytes.Repeat([]byte{128}, 9), api.ErrShort}, {bytes.Repeat([]byte{128}, 10), api.ErrOver}, {bytes.Repeat([]byte{255}, 30), api.ErrOver}} {
		thrown(t, "Next", func() { short.Next(cursor.New(x.b)) }, x.e)
	}
}

func TestShortZigs(t *testing.T) {
	list(t, "Zigs", short.Zigs([]int64{0, -1, 1, least}), []uint64{0, 1, 2, top})
	list(t, "Zags", short.Zags([]uint64{0, 1, 2, top}), []int64{0, -1, 1, least})
	apart(t, "Zigs", []int64{1, 2}, short.Zigs)
	apart(t, "Zags", []uint64{1, 2}, short.Zags)
}
