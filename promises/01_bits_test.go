package promises

import (
	"fmt"
	"slices"
	"testing"

	"corduroy/api"
	"corduroy/bits"
)

const top = 1<<64 - 1

// slowBits are bits of numbers, one by one: the oracle of what is packed.
func slowBits(l []uint64, width int) []bool {
	var out []bool
	for _, v := range l {
		for k := range width {
			out = append(out, v>>k&1 == 1)
		}
	}
	return out
}

// slowBytes are the bytes of bits, the lowest first, and bits 0 till the last one is full.
func slowBytes(bits []bool) []byte {
	b := make([]byte, (len(bits)+7)/8)
	for k, is := range bits {
		if is {
			b[k/8] |= 1 << (k % 8)
		}
	}
	return b
}

func numbersOf(d *dice, n, width int) []uint64 {
	l := make([]uint64, n)
	for i := range l {
		if width > 0 {
			l[i] = d.next() >> (64 - width)
		}
	}
	return l
}

func TestP1_1_Writer(t *testing.T) {
	w := bits.NewWriter()
	is(t, "Len of nothing", w.Len(), 0)
	list(t, "Bytes of nothing", w.Bytes(), nil)
	is(t, "Put", w.Put(5, 3), api.OK)
	is(t, "Put of the width 0", w.Put(0, 0), api.OK)
	is(t, "Len", w.Len(), 3)
	list(t, "Bytes, filled up", w.Bytes(), []byte{5})
	is(t, "Put", w.Put(2, 3), api.OK)
	is(t, "Put", w.Put(7, 3), api.OK)
	is(t, "Len", w.Len(), 9)
	list(t, "Bytes", w.Bytes(), []byte{213, 1})
	is(t, "Put of 64", w.Put(top, 64), api.OK)
	is(t, "Put of 64", w.Put(1<<63, 64), api.OK)
	is(t, "Len", w.Len(), 137)
	list(t, "Bytes", w.Bytes(), []byte{213, 255, 255, 255, 255, 255, 255, 255, 255, 1, 0, 0, 0, 0, 0, 0, 0, 1})
}

func TestP1_1_WriterWrong(t *testing.T) {
	w := bits.NewWriter()
	w.Put(1, 1)
	for _, x := range []struct {
		v     uint64
		width int
		e     api.Errno
	}{{0, -1, api.ErrWidth}, {0, 65, api.ErrWidth}, {top, -1, api.ErrWidth}, {top, 1 << 40, api.ErrWidth}, {0, -1 << 63, api.ErrWidth}, {1, 0, api.ErrRange}, {2, 1, api.ErrRange}, {8, 3, api.ErrRange}, {1 << 63, 63, api.ErrRange}, {top, 32, api.ErrRange}} {
		is(t, fmt.Sprint("Put ", x.v, x.width), w.Put(x.v, x.width), x.e)
		is(t, "with an error nothing is changed", w.Len(), 1)
	}
	list(t, "Bytes", w.Bytes(), []byte{1})
	for width := range 65 {
		if width > 0 {
			is(t, "the greatest", bits.NewWriter().Put(top>>(64-width), width), api.OK)
		}
		if width < 64 {
			is(t, "one more", bits.NewWriter().Put(1<<width, width), api.ErrRange)
		}
	}
}

func TestP1_1_BytesShareNothing(t *testing.T) {
	w := bits.NewWriter()
	w.Put(0x1ff, 9)
	b := w.Bytes()
	turn(b)
	list(t, "Bytes", w.Bytes(), []byte{255, 1})
	b = w.Bytes()
	w.Put(1, 1)
	list(t, "Bytes ahead of a Put", b, []byte{255, 1})
	list(t, "Bytes", w.Bytes(), []byte{255, 3})
}

func TestP1_2_Reader(t *testing.T) {
	r := bits.NewReader([]byte{213, 255, 255, 255, 255, 255, 255, 255, 255, 1})
	is(t, "Left", r.Left(), 80)
	for _, x := range []struct {
		width int
		v     uint64
		left  int
	}{{3, 5, 77}, {0, 0, 77}, {3, 2, 74}, {3, 7, 71}, {64, top, 7}, {6, 0, 1}} {
		v, e := r.Get(x.width)
		is(t, "Get", e, api.OK)
		is(t, "Get", v, x.v)
		is(t, "Left", r.Left(), x.left)
	}
	for _, x := range []struct {
		width int
		e     api.Errno
	}{{2, api.ErrShort}, {64, api.ErrShort}, {65, api.ErrWidth}, {-1, api.ErrWidth}, {1 << 40, api.ErrWidth}} {
		v, e := r.Get(x.width)
		is(t, "Get", e, x.e)
		is(t, "nothing beside an error", v, 0)
		is(t, "with an error nothing is changed", r.Left(), 1)
	}
	v, e := r.Get(1)
	is(t, "Get", v, 0)
	is(t, "Get", e, api.OK)
	_, e = r.Get(1)
	is(t, "Get of no bits", e, api.ErrShort)
	v, e = r.Get(0)
	is(t, "Get of the width 0 at the end", v, 0)
	is(t, "Get of the width 0 at the end", e, api.OK)
	is(t, "of nothing", bits.NewReader(nil).Left(), 0)
}

func TestP1_2_ReaderKeepsNothing(t *testing.T) {
	b := []byte{1, 2, 3}
	r := bits.NewReader(b)
	turn(b)
	v, _ := r.Get(24)
	is(t, "Get", v, 0x030201)
}

func TestP1_3_Need(t *testing.T) {
	for _, x := range [][3]int{{3, 3, 2}, {5, 0, 0}, {0, 64, 0}, {1, 1, 1}, {8, 1, 1}, {9, 1, 2}, {2, 64, 16}, {1024, 64, 8192}, {1024, 1, 128}, {1025, 1, 0}, {-1, 8, 0}, {1, -1, 0}, {1, 65, 0}, {1, 64, 8}, {-1 << 63, 64, 0}, {1<<63 - 1, 64, 0}, {7, 7, 7}} {
		is(t, fmt.Sprint("Need ", x[0], x[1]), bits.Need(x[0], x[1]), x[2])
	}
}

func TestP1_3_Pack(t *testing.T) {
	for _, x := range []struct {
		width int
		l     []uint64
		b     []byte
		e     api.Errno
	}{
		{3, []uint64{5, 2, 7}, []byte{213, 1}, api.OK},
		{0, []uint64{0, 0, 0, 0, 0}, nil, api.OK},
		{9, nil, nil, api.OK},
		{64, []uint64{1, top}, []byte{1, 0, 0, 0, 0, 0, 0, 0, 255, 255, 255, 255, 255, 255, 255, 255}, api.OK},
		{8, []uint64{255, 0, 7}, []byte{255, 0, 7}, api.OK},
		{-1, nil, nil, api.ErrWidth},
		{65, []uint64{1}, nil, api.ErrWidth},
		{65, make([]uint64, 1025), nil, api.ErrWidth},
		{0, make([]uint64, 1024), nil, api.OK},
		{0, make([]uint64, 1025), nil, api.ErrCount},
		{1, append(make([]uint64, 1024), 2), nil, api.ErrCount},
		{3, []uint64{7, 8}, nil, api.ErrRange},
		{3, []uint64{8, 7}, nil, api.ErrRange},
		{0, []uint64{1}, nil, api.ErrRange},
	} {
		b, e := bits.Pack(x.width, x.l...)
		fails(t, "Pack", b, e, x.e)
		list(t, "Pack", b, x.b)
	}
	apart(t, "Pack", []uint64{5, 2, 7}, func(l []uint64) []byte { b, _ := bits.Pack(64, l...); return b })
}

func TestP1_3_Unpack(t *testing.T) {
	for _, x := range []struct {
		b        []byte
		width, n int
		l        []uint64
		e        api.Errno
	}{
		{[]byte{213, 1}, 3, 3, []uint64{5, 2, 7}, api.OK},
		{nil, 0, 5, []uint64{0, 0, 0, 0, 0}, api.OK},
		{nil, 64, 0, nil, api.OK},
		{nil, 65, -1, nil, api.ErrWidth},
		{nil, -1, 1, nil, api.ErrWidth},
		{nil, 3, -1, nil, api.ErrCount},
		{nil, 3, 1025, nil, api.ErrCount},
		{nil, 0, 1025, nil, api.ErrCount},
		{nil, 0, 1 << 62, nil, api.ErrCount},
		{[]byte{213}, 3, 3, nil, api.ErrShort},
		{nil, 64, 1, nil, api.ErrShort},
		{[]byte{213, 255, 0}, 3, 3, nil, api.ErrLong},
		{[]byte{0}, 0, 9, nil, api.ErrLong},
		{[]byte{0}, 9, 0, nil, api.ErrLong},
		{[]byte{213, 3}, 3, 3, nil, api.ErrForm},
		{[]byte{213, 129}, 3, 3, nil, api.ErrForm},
		{[]byte{0, 128}, 5, 3, nil, api.ErrForm},
		{[]byte{255, 127}, 5, 3, []uint64{31, 31, 31}, api.OK},
	} {
		l, e := bits.Unpack(x.b, x.width, x.n)
		fails(t, "Unpack", l, e, x.e)
		list(t, "Unpack", l, x.l)
	}
	apart(t, "Unpack", []byte{5, 2, 7}, func(b []byte) []uint64 { l, _ := bits.Unpack(b, 8, 3); return l })
}

func TestP1_4_ThereAndBack(t *testing.T) {
	d := dice(1)
	for width := range 65 {
		for _, n := range []int{0, 1, 2, 3, 7, 8, 9, 64, 1023, 1024} {
			l := numbersOf(&d, n, width)
			b, e := bits.Pack(width, l...)
			is(t, "Pack", e, api.OK)
			list(t, "Pack", b, slowBytes(slowBits(l, width)))
			is(t, "Need", bits.Need(n, width), len(b))
			back, e := bits.Unpack(b, width, n)
			is(t, "Unpack", e, api.OK)
			list(t, "Unpack", back, l)
		}
	}
}

func TestP1_4_BytesAndBack(t *testing.T) {
	d := dice(2)
	for range 2000 {
		width, n := d.below(65), d.below(20)
		b := d.bytes(bits.Need(n, width))
		l, e := bits.Unpack(b, width, n)
		if e == api.ErrForm {
			continue
		}
		is(t, "Unpack", e, api.OK)
		again, _ := bits.Pack(width, l...)
		list(t, "Pack of what was unpacked", again, b)
	}
}

func TestP1_4_MixedWidths(t *testing.T) {
	d := dice(3)
	w := bits.NewWriter()
	var all []bool
	var widths []int
	var l []uint64
	for range 500 {
		width := d.below(65)
		v := numbersOf(&d, 1, width)[0]
		is(t, "Put", w.Put(v, width), api.OK)
		all = slices.Concat(all, slowBits([]uint64{v}, width))
		widths, l = append(widths, width), append(l, v)
		is(t, "Len", w.Len(), len(all))
	}
	list(t, "Bytes", w.Bytes(), slowBytes(all))
	r := bits.NewReader(w.Bytes())
	for i, width := range widths {
		v, e := r.Get(width)
		is(t, "Get", e, api.OK)
		is(t, "Get", v, l[i])
	}
	is(t, "Left", r.Left(), 8*len(w.Bytes())-len(all))
}
