package promises

import (
	"bytes"
	"testing"

	"corduroy/api"
	"corduroy/cursor"
	"corduroy/short"
)

func TestShortNext(t *testing.T) {
	c := cursor.New([]byte{172, 2, 0, 127, 128})
	is(t, "Next", short.Next(c), 300)
	is(t, "At", c.At(), 2)
	is(t, "Next", short.Next(c), 0)
	is(t, "Next", short.Next(c), 127)
	thrown(t, "Next of too few", func() { short.Next(c) }, api.ErrShort)
	for _, x := range []struct {
		b []byte
		e api.Errno
	}{{nil, api.ErrShort}, {[]byte{128, 0}, api.ErrOver}, {bytes.Repeat([]byte{128}, 9), api.ErrShort}, {bytes.Repeat([]byte{128}, 10), api.ErrOver}, {bytes.Repeat([]byte{255}, 30), api.ErrOver}} {
		thrown(t, "Next", func() { short.Next(cursor.New(x.b)) }, x.e)
	}
}
