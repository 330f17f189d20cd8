package promises

import (
	"slices"
	"testing"

	"corduroy/api"
	"corduroy/cursor"
	"corduroy/trap"
)

func TestP3_1_Numbers(t *testing.T) {
	c := cursor.New([]byte{200, 1, 2, 252, 253, 254, 255, 1, 2, 3, 4, 5, 6, 7, 128, 9, 9})
	is(t, "At", c.At(), 0)
	is(t, "Left", c.Left(), 17)
	is(t, "U8", c.U8(), 200)
	is(t, "At", c.At(), 1)
	is(t, "U16", c.U16(), 0x0201)
	is(t, "At", c.At(), 3)
	is(t, "U32", c.U32(), 0xfffefdfc)
	is(t, "At", c.At(), 7)
	is(t, "U64", c.U64(), 0x8007060504030201)
	is(t, "At", c.At(), 15)
	is(t, "Left", c.Left(), 2)
	list(t, "Peek", c.Peek(), []byte{9, 9})
	is(t, "Peek goes nowhere", c.At(), 15)
}

func TestP3_1_Short(t *testing.T) {
	for left := range 9 {
		for _, x := range []struct {
			size int
			do   func(c *cursor.Cursor)
		}{
			{1, func(c *cursor.Cursor) { c.U8() }},
			{2, func(c *cursor.Cursor) { c.U16() }},
			{4, func(c *cursor.Cursor) { c.U32() }},
			{8, func(c *cursor.Cursor) { c.U64() }},
			{3, func(c *cursor.Cursor) { c.Bytes(3) }},
		} {
			c := cursor.New(make([]byte, 1+left))
			c.U8()
			if x.size > left {
				thrown(t, "too few", func() { x.do(c) }, api.ErrShort)
				is(t, "it stays where it was", c.At(), 1)
				is(t, "it stays where it was", c.Left(), left)
			} else {
				thrown(t, "enough", func() { x.do(c) }, api.OK)
				is(t, "it goes on", c.At(), 1+x.size)
			}
		}
	}
}

func TestP3_1_Bytes(t *testing.T) {
	c := cursor.New([]byte{1, 2, 3, 4})
	list(t, "Bytes of none", c.Bytes(0), nil)
	list(t, "Bytes", c.Bytes(3), []byte{1, 2, 3})
	is(t, "At", c.At(), 3)
	for _, x := range []struct {
		n int
		e api.Errno
	}{{-1, api.ErrRange}, {-1 << 63, api.ErrRange}, {2, api.ErrShort}, {1<<63 - 1, api.ErrShort}} {
		thrown(t, "Bytes", func() { c.Bytes(x.n) }, x.e)
		is(t, "it stays where it was", c.At(), 3)
	}
	list(t, "Bytes", c.Bytes(1), []byte{4})
	list(t, "Bytes of none at the end", c.Bytes(0), nil)
	thrown(t, "Bytes at the end", func() { c.Bytes(-1) }, api.ErrRange)
	thrown(t, "Bytes at the end", func() { c.Bytes(1) }, api.ErrShort)
}

func TestP3_1_End(t *testing.T) {
	c := cursor.New([]byte{1})
	thrown(t, "End", c.End, api.ErrLong)
	is(t, "it stays where it was", c.At(), 0)
	c.U8()
	thrown(t, "End", c.End, api.OK)
	thrown(t, "End of nothing", cursor.New(nil).End, api.OK)
	is(t, "Left of nothing", cursor.New(nil).Left(), 0)
	list(t, "Peek of nothing", cursor.New(nil).Peek(), nil)
}

func TestP3_1_SharesNothing(t *testing.T) {
	in := []byte{1, 2, 3, 4}
	c := cursor.New(in)
	turn(in)
	peek := c.Peek()
	list(t, "Peek", peek, []byte{1, 2, 3, 4})
	turn(peek)
	first := c.Bytes(2)
	list(t, "Bytes", first, []byte{1, 2})
	turn(first)
	_ = append(first, 77)
	list(t, "Peek", c.Peek(), []byte{3, 4})
	is(t, "U8", c.U8(), 3)
}

func TestP3_2_Put(t *testing.T) {
	list(t, "Put16", cursor.Put16([]byte{9}, 258), []byte{9, 2, 1})
	list(t, "Put16", cursor.Put16(nil, 0xfffe), []byte{254, 255})
	list(t, "Put32", cursor.Put32([]byte{9, 8}, 0x04030201), []byte{9, 8, 1, 2, 3, 4})
	list(t, "Put64", cursor.Put64(nil, 0xf807060504030201), []byte{1, 2, 3, 4, 5, 6, 7, 248})
	apart(t, "Put16", []byte{1, 2}, func(b []byte) []byte { return cursor.Put16(b, 5) })
	apart(t, "Put32", []byte{1, 2}, func(b []byte) []byte { return cursor.Put32(b, 5) })
	apart(t, "Put64", []byte{1, 2}, func(b []byte) []byte { return cursor.Put64(b, 5) })
}

func TestP3_3_ThereAndBack(t *testing.T) {
	d := dice(4)
	for range 500 {
		v := d.next() >> d.below(64)
		head := d.bytes(d.below(5))
		b := cursor.Put64(cursor.Put32(cursor.Put16(head, uint16(v)), uint32(v)), v)
		c := cursor.New(slices.Clone(b))
		list(t, "Bytes", c.Bytes(len(head)), head)
		is(t, "U16", c.U16(), uint16(v))
		is(t, "U32", c.U32(), uint32(v))
		is(t, "U64", c.U64(), v)
		thrown(t, "End", c.End, api.OK)
	}
	c := cursor.New([]byte{1, 0, 7})
	is(t, "example 2", c.U16(), 1)
	is(t, "example 2", trap.Try(func() { c.U16() }), api.ErrShort)
	is(t, "example 2", c.At(), 2)
}
