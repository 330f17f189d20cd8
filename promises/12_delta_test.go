package promises

import (
	"bytes"
	"slices"
	"testing"

	"corduroy/api"
	"corduroy/delta"
)

func slowDelta(l []int64) []byte {
	b := slowShort(slowZig(l[0]))
	for i := 1; i < len(l); i += 128 {
		var deltas []int64
		for k := i; k < min(i+128, len(l)); k++ {
			deltas = append(deltas, l[k]-l[k-1])
		}
		low := slices.Min(deltas)
		b = append(b, slowShort(slowZig(low))...)
		var packed []byte
		for k := 0; k < len(deltas); k += 32 {
			var offsets []uint64
			for _, v := range deltas[k:min(k+32, len(deltas))] {
				offsets = append(offsets, uint64(v)-uint64(low))
			}
			w := slowMost(offsets)
			b = append(b, byte(w))
			packed = append(packed, slowBytes(slowBits(offsets, w))...)
		}
		b = append(b, packed...)
	}
	return b
}

func TestP12_1_Delta(t *testing.T) {
	laws(t, delta.Delta{}, "delta", anyBlock, slowDelta)
	ends(t, "delta", counted(delta.Delta{}))
	ramp := make([]int64, 1024)
	for i := range ramp {
		ramp[i] = int64(3 * i)
	}
	for _, x := range []struct {
		l []int64
		b []byte
	}{
		{[]int64{5, 7, 9}, []byte{10, 4, 0}},
		{[]int64{0, 1, 3}, []byte{0, 2, 1, 2}},
		{[]int64{5}, []byte{10}},
		{[]int64{maxInt, minInt, maxInt}, append(slowShort(top-1), 1, 2, 2)},
		{ramp[:33], []byte{0, 6, 0}},
		{ramp[:34], []byte{0, 6, 0, 0}},
		{ramp[:129], []byte{0, 6, 0, 0, 0, 0}},
		{ramp[:130], []byte{0, 6, 0, 0, 0, 0, 6, 0}},
		{ramp, slices.Concat([]byte{0}, bytes.Repeat([]byte{6, 0, 0, 0, 0}, 8))},
	} {
		b, e := delta.Delta{}.Encode(x.l)
		is(t, "Encode", e, api.OK)
		list(t, "Encode", b, x.b)
	}
}

func TestP12_2_Decode(t *testing.T) {
	over := append(bytes.Repeat([]byte{255}, 9), 2)
	decodes(t, "delta", delta.Delta{}.Decode, []decoded{
		{[]byte{10, 4, 0}, 3, []int64{5, 7, 9}, api.OK},
		{[]byte{0, 2, 1, 2}, 3, []int64{0, 1, 3}, api.OK},
		{[]byte{10}, 1, []int64{5}, api.OK},
		{nil, 1, nil, api.ErrShort},
		{[]byte{128}, 1, nil, api.ErrShort},
		{[]byte{128, 0}, 1, nil, api.ErrOver},
		{over, 2, nil, api.ErrOver},
		{[]byte{10, 0}, 1, nil, api.ErrLong},
		{[]byte{10}, 2, nil, api.ErrShort},
		{[]byte{10, 128}, 2, nil, api.ErrShort},
		{[]byte{10, 128, 0}, 2, nil, api.ErrOver},
		{slices.Concat([]byte{10}, over), 2, nil, api.ErrOver},
		// Widths.
		{[]byte{10, 4}, 2, nil, api.ErrShort},
		{[]byte{10, 4, 65}, 2, nil, api.ErrWidth},
		{[]byte{10, 4, 65}, 34, nil, api.ErrWidth},
		{[]byte{10, 4, 0}, 34, nil, api.ErrShort},
		{[]byte{10, 4, 0, 65}, 34, nil, api.ErrWidth},
		{[]byte{10, 4, 64, 255}, 34, nil, api.ErrWidth},
		{[]byte{10, 4, 0, 0}, 34, rising(5, 2, 34), api.OK},
		{[]byte{10, 4, 0, 0, 0}, 34, nil, api.ErrLong},
		{[]byte{10, 4, 0, 0}, 33, nil, api.ErrLong},
		// Offsets.
		{[]byte{0, 2, 1}, 3, nil, api.ErrShort},
		{[]byte{0, 2, 1, 6}, 3, nil, api.ErrForm},
		{[]byte{0, 2, 1, 128, 9}, 3, nil, api.ErrForm},
		{[]byte{0, 2, 1, 3, 9}, 3, nil, api.ErrLong},
		{[]byte{0, 2, 1, 2}, 34, nil, api.ErrShort},
		{[]byte{0, 2, 0, 1, 0}, 34, rising(0, 1, 34), api.OK},
		{[]byte{0, 2, 0, 1, 2}, 34, nil, api.ErrForm},
		{[]byte{0, 2, 1, 0, 0, 0, 0, 128}, 34, append(rising(0, 1, 32), 33, 34)[:34], api.OK},
		{[]byte{0, 2, 1, 1, 0, 0, 0, 0}, 34, nil, api.ErrShort},
		{[]byte{0, 2, 1, 1, 0, 0, 0, 0, 2}, 34, nil, api.ErrForm},
		{slices.Concat([]byte{0, 2, 64}, bytes.Repeat([]byte{255}, 8)), 2, []int64{0, 0}, api.OK},
		{slices.Concat([]byte{0, 2, 64}, bytes.Repeat([]byte{255}, 7)), 2, nil, api.ErrShort},
		// Parts.
		{[]byte{0, 2, 0, 0, 0, 0}, 130, nil, api.ErrShort},
		{[]byte{0, 2, 0, 0, 0, 0, 128, 0}, 130, nil, api.ErrOver},
		{[]byte{0, 2, 0, 0, 0, 0, 2}, 130, nil, api.ErrShort},
		{[]byte{0, 2, 0, 0, 0, 0, 2, 65}, 130, nil, api.ErrWidth},
		{[]byte{0, 2, 0, 0, 0, 0, 2, 0}, 130, rising(0, 1, 130), api.OK},
	})
}

func rising(from, by int64, n int) []int64 {
	l := make([]int64, n)
	for i := range l {
		l[i] = from + int64(i)*by
	}
	return l
}

// TestP12_3_OtherForms: other least deltas, and greater widths, are decoded to the same numbers.
func TestP12_3_OtherForms(t *testing.T) {
	decodes(t, "delta", delta.Delta{}.Decode, []decoded{
		{[]byte{10, 0, 2, 10}, 3, []int64{5, 7, 9}, api.OK},
		{[]byte{10, 3, 3, 36}, 3, []int64{5, 7, 9}, api.OK},
		{[]byte{10, 4, 8, 0, 0}, 3, []int64{5, 7, 9}, api.OK},
	})
}
