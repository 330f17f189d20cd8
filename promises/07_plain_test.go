package promises

import (
	"fmt"
	"math"
	"slices"
	"testing"

	"corduroy/api"
	"corduroy/cursor"
	"corduroy/plain"
	"corduroy/trap"
)

// picky is a codec of blocks of odd numbers alone.
type picky struct{ plain.Plain }

func (picky) Takes(l []int64) bool {
	return !slices.ContainsFunc(l, func(v int64) bool { return v%2 == 0 })
}

func anyBlock(l []int64) bool { return len(l) >= 1 && len(l) <= 1024 }

func slowPlain(l []int64) []byte {
	var b []byte
	for _, v := range l {
		b = append(b, slowFixed(uint64(v), 8)...)
	}
	return b
}

func TestP7_1_Block(t *testing.T) {
	for _, n := range []int{1, 2, 500, 1023, 1024} {
		is(t, fmt.Sprint("Block of ", n), plain.Block(n), true)
	}
	for _, n := range []int{0, -1, 1025, math.MinInt, math.MaxInt} {
		is(t, fmt.Sprint("Block of ", n), plain.Block(n), false)
	}
}

func TestP7_1_Wrong(t *testing.T) {
	is(t, "Wrong", plain.Wrong(picky{}, []int64{1, 3}), api.OK)
	is(t, "Wrong", plain.Wrong(picky{}, []int64{1, 2}), api.ErrCodec)
	is(t, "Wrong", plain.Wrong(picky{}, nil), api.ErrCount)
	is(t, "Wrong", plain.Wrong(picky{}, make([]int64, 1024)), api.ErrCodec)
	is(t, "Wrong", plain.Wrong(picky{}, make([]int64, 1025)), api.ErrCount)
}

func TestP7_2_Read(t *testing.T) {
	two := func(c *cursor.Cursor) []int64 { return []int64{int64(c.U8()), int64(c.U16())} }
	done := 0
	for _, x := range []struct {
		b  []byte
		n  int
		do func(c *cursor.Cursor) []int64
		l  []int64
		e  api.Errno
	}{
		{[]byte{7, 1, 2}, 2, two, []int64{7, 513}, api.OK},
		{[]byte{7, 1, 2}, 9, two, []int64{7, 513}, api.OK},
		{[]byte{7, 1, 2}, 1024, two, []int64{7, 513}, api.OK},
		{[]byte{7, 1, 2, 3}, 2, two, nil, api.ErrLong},
		{[]byte{7, 1}, 2, two, nil, api.ErrShort},
		{nil, 2, two, nil, api.ErrShort},
		{[]byte{7}, 1, func(c *cursor.Cursor) []int64 { trap.Throw(api.ErrTag); return nil }, nil, api.ErrTag},
		{[]byte{7}, 1, func(c *cursor.Cursor) []int64 { trap.Throw(api.OK); c.U8(); return []int64{1} }, []int64{1}, api.OK},
		{nil, 1, func(c *cursor.Cursor) []int64 { return nil }, nil, api.OK},
		{nil, 0, func(c *cursor.Cursor) []int64 { done++; return nil }, nil, api.ErrCount},
		{nil, -5, func(c *cursor.Cursor) []int64 { done++; return nil }, nil, api.ErrCount},
		{[]byte{1}, 1025, func(c *cursor.Cursor) []int64 { done++; return nil }, nil, api.ErrCount},
	} {
		l, e := plain.Read(x.b, x.n, x.do)
		fails(t, "Read", l, e, x.e)
		list(t, "Read", l, x.l)
	}
	is(t, "nothing is done of no block", done, 0)
	is(t, "a panic goes on", panics(func() { plain.Read(nil, 1, func(*cursor.Cursor) []int64 { panic("other") }) }), "other")
	plain.Read([]byte{1, 2}, 1, func(c *cursor.Cursor) []int64 {
		is(t, "at the front", c.At(), 0)
		list(t, "at the front", c.Peek(), []byte{1, 2})
		return nil
	})
}

func TestP7_2_ReadSharesNothing(t *testing.T) {
	kept := []int64{1, 2}
	l, _ := plain.Read(nil, 2, func(*cursor.Cursor) []int64 { return kept })
	turn(kept)
	list(t, "Read", l, []int64{1, 2})
}

func TestP7_3_Plain(t *testing.T) {
	laws(t, plain.Plain{}, "plain", anyBlock, slowPlain)
	b, e := plain.Plain{}.Encode([]int64{-1})
	is(t, "Encode of -1", e, api.OK)
	list(t, "Encode of -1", b, []byte{255, 255, 255, 255, 255, 255, 255, 255})
	is(t, "Size", plain.Plain{}.Size(make([]int64, 1024)), 8192)
	decodes(t, "plain", plain.Plain{}.Decode, []decoded{
		{nil, 1, nil, api.ErrShort},
		{make([]byte, 7), 1, nil, api.ErrShort},
		{make([]byte, 9), 1, nil, api.ErrLong},
		{make([]byte, 15), 2, nil, api.ErrShort},
		{make([]byte, 17), 2, nil, api.ErrLong},
		{make([]byte, 8), 1, []int64{0}, api.OK},
		{[]byte{1, 0, 0, 0, 0, 0, 0, 128, 2, 0, 0, 0, 0, 0, 0, 0}, 2, []int64{math.MinInt64 + 1, 2}, api.OK},
		{make([]byte, 8192), 1024, make([]int64, 1024), api.OK},
		{make([]byte, 8192), 1025, nil, api.ErrCount},
	})
	ends(t, "plain", counted(plain.Plain{}))
}

// counted is how many numbers a codec decodes.
func counted(c plain.Codec) func(b []byte, n int) (int, api.Errno) {
	return func(b []byte, n int) (int, api.Errno) {
		l, e := c.Decode(b, n)
		return len(l), e
	}
}

func TestP7_4_OfNoOtherBlock(t *testing.T) {
	forms(t, plain.Plain{})
}

// forms: bytes that are decoded are the form of what they are decoded to.
func forms(t *testing.T, c plain.Codec) {
	d := dice(12)
	for range 20000 {
		n := 1 + d.below(3)
		b := d.bytes(d.below(8*n + 4))
		for i := range b {
			b[i] &= byte(d.next())
		}
		if l, e := c.Decode(b, n); e == api.OK {
			again, _ := c.Encode(l)
			list(t, "Encode of what was decoded", again, b)
		}
	}
}
