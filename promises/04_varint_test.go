package promises

import (
	"fmt"
	"slices"
	"testing"

	"corduroy/api"
	"corduroy/varint"
)

// edges are the numbers at which widths, and numbers of short bytes, change.
func edges() []uint64 {
	l := []uint64{0, 1, 2, 3, 300, 1<<53 - 1, 1<<60 - 1, 1 << 60}
	for k := 2; k < 64; k++ {
		l = append(l, 1<<k-1, 1<<k, 1<<k+1)
	}
	return append(l, top-1, top)
}

func TestP4_1_Put(t *testing.T) {
	for _, x := range []struct {
		v uint64
		b []byte
	}{
		{0, []byte{0}}, {1, []byte{1}}, {127, []byte{127}}, {128, []byte{128, 1}}, {300, []byte{172, 2}}, {16383, []byte{255, 127}}, {16384, []byte{128, 128, 1}},
		{1<<63 - 1, []byte{255, 255, 255, 255, 255, 255, 255, 255, 127}},
		{1 << 63, []byte{128, 128, 128, 128, 128, 128, 128, 128, 128, 1}},
		{top, []byte{255, 255, 255, 255, 255, 255, 255, 255, 255, 1}},
	} {
		list(t, "Put", varint.Put(nil, x.v), x.b)
		list(t, "Put behind", varint.Put([]byte{200, 0}, x.v), slices.Concat([]byte{200, 0}, x.b))
		is(t, "Size", varint.Size(x.v), len(x.b))
	}
	apart(t, "Put", []byte{1, 2}, func(b []byte) []byte { return varint.Put(b, 300) })
}

func TestP4_2_Get(t *testing.T) {
	full := []byte{255, 255, 255, 255, 255, 255, 255, 255, 255}
	nine := []byte{128, 128, 128, 128, 128, 128, 128, 128, 128}
	for _, x := range []struct {
		b []byte
		v uint64
		n int
		e api.Errno
	}{
		{[]byte{0}, 0, 1, api.OK},
		{[]byte{0, 0}, 0, 1, api.OK},
		{[]byte{172, 2}, 300, 2, api.OK},
		{[]byte{172, 2, 255, 255}, 300, 2, api.OK},
		{[]byte{127, 128}, 127, 1, api.OK},
		{append(slices.Clone(full), 1), top, 10, api.OK},
		{append(slices.Clone(nine), 1), 1 << 63, 10, api.OK},
		{append(slices.Clone(nine), 1, 255), 1 << 63, 10, api.OK},
		{slices.Concat(nine[:8], []byte{127}), 127 << 56, 9, api.OK},
		{nil, 0, 0, api.ErrShort},
		{[]byte{128}, 0, 0, api.ErrShort},
		{full, 0, 0, api.ErrShort},
		{append(slices.Clone(full), 2), 0, 0, api.ErrOver},
		{append(slices.Clone(full), 127), 0, 0, api.ErrOver},
		{append(slices.Clone(full), 128), 0, 0, api.ErrOver},
		{append(slices.Clone(full), 128, 0), 0, 0, api.ErrOver},
		{append(slices.Clone(full), 0), 0, 0, api.ErrOver},
		{append(slices.Clone(nine), 0), 0, 0, api.ErrOver},
		{[]byte{128, 0}, 0, 0, api.ErrOver},
		{[]byte{172, 130, 0}, 0, 0, api.ErrOver},
		{slices.Concat(full, full), 0, 0, api.ErrOver},
	} {
		v, n, e := varint.Get(x.b)
		is(t, fmt.Sprint("Get ", x.b), e, x.e)
		is(t, fmt.Sprint("Get ", x.b), v, x.v)
		is(t, fmt.Sprint("Get ", x.b), n, x.n)
	}
}

func TestP4_3_Zigzag(t *testing.T) {
	for _, x := range []struct {
		v int64
		z uint64
	}{{0, 0}, {-1, 1}, {1, 2}, {-2, 3}, {2, 4}, {64, 128}, {-64, 127}, {1<<63 - 1, top - 1}, {-1 << 63, top}, {-1<<63 + 1, top - 2}, {1 << 62, 1 << 63}} {
		is(t, fmt.Sprint("Zig ", x.v), varint.Zig(x.v), x.z)
		is(t, fmt.Sprint("Zag ", x.z), varint.Zag(x.z), x.v)
	}
}

func TestP4_4_ThereAndBack(t *testing.T) {
	d := dice(5)
	l := edges()
	for range 1000 {
		l = append(l, d.next()>>d.below(64))
	}
	for _, v := range l {
		b := varint.Put(nil, v)
		is(t, "Size", varint.Size(v), len(b))
		back, n, e := varint.Get(append(slices.Clone(b), 255))
		is(t, "Get", e, api.OK)
		is(t, "Get", back, v)
		is(t, "Get", n, len(b))
		is(t, "Zag of Zig", varint.Zag(varint.Zig(int64(v))), int64(v))
		is(t, "Zig of Zag", varint.Zig(varint.Zag(v)), v)
		for k := range len(b) {
			_, _, e := varint.Get(b[:k])
			is(t, "Get of fewer", e, api.ErrShort)
		}
	}
}

func TestP4_4_FromNoOtherBytes(t *testing.T) {
	d := dice(6)
	for range 20000 {
		b := d.bytes(1 + d.below(11))
		for i := range b {
			if d.below(4) > 0 {
				b[i] |= 128
			}
			if d.below(5) == 0 {
				b[i] &= 129
			}
		}
		v, n, e := varint.Get(b)
		if e == api.OK {
			list(t, "Put of what was got", varint.Put(nil, v), b[:n])
		}
	}
}
