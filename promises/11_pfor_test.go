package promises

import (
	"bytes"
	"slices"
	"testing"

	"corduroy/api"
	"corduroy/pfor"
)

func slowPforBy(l []int64, w int) []byte {
	low := slices.Min(l)
	b := append(slowFixed(uint64(low), 8), byte(w))
	var exceptions []byte
	var packed []uint64
	many, gap := 0, 0
	for _, v := range l {
		offset := uint64(v) - uint64(low)
		high := uint64(0)
		if w < 64 {
			high = offset >> w
			offset -= high << w
		}
		packed = append(packed, offset)
		if high == 0 {
			gap++
			continue
		}
		exceptions = slices.Concat(exceptions, slowShort(uint64(gap)), slowShort(high))
		many++
		gap = 0
	}
	return slices.Concat(b, slowShort(uint64(many)), exceptions, slowBytes(slowBits(packed, w)))
}

func slowPfor(l []int64) []byte {
	best := slowPforBy(l, 0)
	for w := 1; w <= 64; w++ {
		if b := slowPforBy(l, w); len(b) < len(best) {
			best = b
		}
	}
	return best
}

func pforHead(low uint64, w byte, more ...byte) []byte {
	return slices.Concat(slowFixed(low, 8), []byte{w}, more)
}

func TestP11_1_Pfor(t *testing.T) {
	laws(t, pfor.Pfor{}, "pfor", anyBlock, slowPfor)
	ends(t, "pfor", counted(pfor.Pfor{}))
	for _, x := range []struct {
		l []int64
		b []byte
	}{
		{[]int64{7, 7, 7}, pforHead(7, 0, 0)},
		{[]int64{5}, pforHead(5, 0, 0)},
		{[]int64{-1, -1}, pforHead(top, 0, 0)},
		{[]int64{5, 4, 300}, pforHead(4, 2, 1, 2, 74, 1)},
		{[]int64{0, 1}, pforHead(0, 1, 0, 2)},
		{[]int64{minInt, maxInt}, slowPforBy([]int64{minInt, maxInt}, 0)},
	} {
		b, e := pfor.Pfor{}.Encode(x.l)
		is(t, "Encode", e, api.OK)
		list(t, "Encode", b, x.b)
	}
}

// TestP11_1_Shortest: of several widths by which it is the shortest the least one is taken.
func TestP11_1_Shortest(t *testing.T) {
	d := dice(14)
	for range 300 {
		l := near(&d, 1+d.below(40), 1+d.below(64))
		b, _ := pfor.Pfor{}.Encode(l)
		for w := range 65 {
			other := slowPforBy(l, w)
			if len(other) < len(b) || len(other) == len(b) && w < int(b[8]) {
				t.Fatalf("%v: by %d, and not by %d", l, b[8], w)
			}
		}
	}
}

// TestP11_1_ManyExceptions: where the number of exceptions itself needs one more byte.
func TestP11_1_ManyExceptions(t *testing.T) {
	for _, many := range []int{126, 127, 128, 129} {
		l := make([]int64, 1024)
		for i := range many {
			l[5*i] = 1 << 40
		}
		b, _ := pfor.Pfor{}.Encode(l)
		list(t, "Encode", b, slowPfor(l))
		is(t, "how many exceptions", int(b[9]&127)+int(b[9]>>7)*(int(b[10])*128), many)
		is(t, "Size", pfor.Pfor{}.Size(l), len(b))
	}
}

func TestP11_2_Decode(t *testing.T) {
	over := append(bytes.Repeat([]byte{255}, 9), 2)
	decodes(t, "pfor", pfor.Pfor{}.Decode, []decoded{
		{pforHead(7, 0, 0), 3, []int64{7, 7, 7}, api.OK},
		{pforHead(4, 2, 1, 2, 74, 1), 3, []int64{5, 4, 300}, api.OK},
		{nil, 1, nil, api.ErrShort},
		{make([]byte, 8), 1, nil, api.ErrShort},
		{bytes.Repeat([]byte{255}, 8), 1, nil, api.ErrShort},
		{pforHead(7, 65), 1, nil, api.ErrWidth},
		{pforHead(7, 255, 128, 0), 1, nil, api.ErrWidth},
		{pforHead(7, 64), 1, nil, api.ErrShort},
		{pforHead(7, 0, 128), 1, nil, api.ErrShort},
		{pforHead(7, 0, 128, 0), 1, nil, api.ErrOver},
		{pforHead(7, 0, over...), 1, nil, api.ErrOver},
		{pforHead(7, 0, 2, 0, 1, 0, 1), 1, nil, api.ErrCount},
		{pforHead(7, 0, 4), 3, nil, api.ErrCount},
		{pforHead(7, 0, slowShort(top)...), 1024, nil, api.ErrCount},
		{pforHead(7, 0, 3, 0, 1, 0, 2, 0, 3), 3, []int64{8, 9, 10}, api.OK},
		// The gap.
		{pforHead(7, 0, 1), 1, nil, api.ErrShort},
		{pforHead(7, 0, 1, 128, 0), 1, nil, api.ErrOver},
		{pforHead(7, 0, 1, 1, 5), 1, nil, api.ErrRange},
		{pforHead(7, 0, 1, 1), 1, nil, api.ErrRange},
		{pforHead(7, 0, 1, 2, 5), 3, []int64{7, 7, 12}, api.OK},
		{pforHead(7, 0, 1, 3, 5), 3, nil, api.ErrRange},
		{pforHead(7, 0, 2, 1, 5, 1, 5), 3, nil, api.ErrRange},
		{pforHead(7, 0, 2, 1, 5, 0, 6), 3, []int64{7, 12, 13}, api.OK},
		{pforHead(7, 0, 2, 0, 5, 2, 6), 3, nil, api.ErrRange},
		{pforHead(7, 0, slices.Concat([]byte{1}, slowShort(top), []byte{1})...), 3, nil, api.ErrRange},
		{pforHead(7, 0, slices.Concat([]byte{2, 0, 5}, slowShort(top), []byte{1})...), 3, nil, api.ErrRange},
		{pforHead(7, 0, slices.Concat([]byte{2, 0, 5}, slowShort(1<<63), []byte{1})...), 3, nil, api.ErrRange},
		// The high part.
		{pforHead(7, 0, 1, 0), 1, nil, api.ErrShort},
		{pforHead(7, 0, 1, 0, 128), 1, nil, api.ErrShort},
		{pforHead(7, 0, 1, 0, 128, 0), 1, nil, api.ErrOver},
		{pforHead(7, 0, 1, 0, 0), 1, nil, api.ErrRange},
		{pforHead(7, 64, 1, 0, 0), 1, nil, api.ErrRange},
		{pforHead(7, 64, 1, 0, 1), 1, nil, api.ErrRange},
		{pforHead(0, 63, 1, 0, 1, 0, 0, 0, 0, 0, 0, 0, 0), 1, []int64{minInt}, api.OK},
		{pforHead(0, 63, 1, 0, 2, 0, 0, 0, 0, 0, 0, 0, 0), 1, nil, api.ErrRange},
		{pforHead(0, 62, 1, 0, 3, 0, 0, 0, 0, 0, 0, 0, 0), 1, []int64{-1 << 62}, api.OK},
		{pforHead(0, 62, 1, 0, 4, 0, 0, 0, 0, 0, 0, 0, 0), 1, nil, api.ErrRange},
		{pforHead(0, 0, slices.Concat([]byte{1, 0}, slowShort(top))...), 1, []int64{-1}, api.OK},
		{pforHead(0, 1, slices.Concat([]byte{1, 0}, slowShort(1<<63), []byte{0})...), 1, nil, api.ErrRange},
		{pforHead(0, 1, slices.Concat([]byte{1, 0}, slowShort(1<<63-1), []byte{1})...), 1, []int64{-1}, api.OK},
		// The low parts.
		{pforHead(7, 3, 0), 1, nil, api.ErrShort},
		{pforHead(7, 3, 0, 255), 3, nil, api.ErrShort},
		{pforHead(7, 3, 0, 213, 1), 3, []int64{12, 9, 14}, api.OK},
		{pforHead(7, 3, 0, 213, 3), 3, nil, api.ErrForm},
		{pforHead(7, 3, 0, 213, 3, 0), 3, nil, api.ErrLong},
		{pforHead(7, 3, 0, 213, 1, 0), 3, nil, api.ErrLong},
		{pforHead(7, 0, 0, 0), 3, nil, api.ErrLong},
		{pforHead(0, 64, 0, 1, 0, 0, 0, 0, 0, 0, 128), 1, []int64{minInt + 1}, api.OK},
	})
}

// TestP11_3_OtherForms: the forms by all widths, and other least numbers, are decoded to the same block.
func TestP11_3_OtherForms(t *testing.T) {
	d := dice(15)
	for range 100 {
		l := near(&d, 1+d.below(40), 1+d.below(64))
		for w := range 65 {
			back, e := pfor.Pfor{}.Decode(slowPforBy(l, w), len(l))
			is(t, "Decode", e, api.OK)
			list(t, "Decode", back, l)
		}
	}
	decodes(t, "pfor", pfor.Pfor{}.Decode, []decoded{
		{pforHead(3, 3, 0, 4), 1, []int64{7}, api.OK},
		{pforHead(maxInt, 1, 0, 1), 1, []int64{minInt}, api.OK},
	})
}
