package promises

import (
	"bytes"
	"slices"
	"testing"

	"corduroy/api"
	"corduroy/hybrid"
)

func slowZigs(l []int64) []uint64 {
	zigs := make([]uint64, len(l))
	for i, v := range l {
		zigs[i] = slowZig(v)
	}
	return zigs
}

func slowMost(l []uint64) int {
	w := 0
	for _, v := range l {
		w = max(w, slowWidth(v))
	}
	return w
}

// sameAt is how many numbers from i on are one and the same.
func sameAt(l []uint64, i int) int {
	n := 0
	for i+n < len(l) && l[i+n] == l[i] {
		n++
	}
	return n
}

func slowHybrid(l []int64) []byte {
	zigs := slowZigs(l)
	w := slowMost(zigs)
	b := []byte{byte(w)}
	for i := 0; i < len(zigs); {
		if n := sameAt(zigs, i); n >= 8 {
			b = append(b, slowShort(uint64(2*n))...)
			b = append(b, slowFixed(zigs[i], (w+7)/8)...)
			i += n
			continue
		}
		var packed []bool
		many := uint64(0)
		for many == 0 || i < len(zigs) && sameAt(zigs, i) < 8 {
			group := make([]uint64, 8)
			i += copy(group, zigs[i:])
			packed = append(packed, slowBits(group, w)...)
			many++
		}
		b = append(b, slowShort(2*many+1)...)
		b = append(b, slowBytes(packed)...)
	}
	return b
}

func TestP10_1_Hybrid(t *testing.T) {
	laws(t, hybrid.Hybrid{}, "hybrid", anyBlock, slowHybrid)
	ends(t, "hybrid", counted(hybrid.Hybrid{}))
	for _, x := range []struct {
		l []int64
		b []byte
	}{
		{slices.Repeat([]int64{3}, 10), []byte{3, 20, 6}},
		{[]int64{0, 1}, []byte{2, 3, 8, 0}},
		{[]int64{0}, []byte{0, 3}},
		{make([]int64, 8), []byte{0, 16}},
		{make([]int64, 7), []byte{0, 3}},
		{make([]int64, 1024), []byte{0, 128, 16}},
		{slices.Repeat([]int64{-7}, 1000), []byte{4, 208, 15, 13}},
		{slices.Repeat([]int64{-1}, 7), []byte{1, 3, 127}},
		{append([]int64{0}, slices.Repeat([]int64{-1}, 15)...), []byte{1, 3, 254, 16, 1}},
		{append(slices.Repeat([]int64{-1}, 9), 0), []byte{1, 18, 1, 3, 0}},
		{append([]int64{0}, slices.Repeat([]int64{-1}, 14)...), []byte{1, 5, 254, 127}},
	} {
		b, e := hybrid.Hybrid{}.Encode(x.l)
		is(t, "Encode", e, api.OK)
		list(t, "Encode", b, x.b)
	}
}

func TestP10_2_Decode(t *testing.T) {
	over := append(bytes.Repeat([]byte{255}, 9), 2)
	decodes(t, "hybrid", hybrid.Hybrid{}.Decode, []decoded{
		{[]byte{3, 20, 6}, 10, slices.Repeat([]int64{3}, 10), api.OK},
		{[]byte{2, 3, 8, 0}, 2, []int64{0, 1}, api.OK},
		{nil, 1, nil, api.ErrShort},
		{[]byte{65}, 1, nil, api.ErrWidth},
		{[]byte{255, 128, 0}, 1, nil, api.ErrWidth},
		{[]byte{64}, 1, nil, api.ErrShort},
		{[]byte{3, 128}, 1, nil, api.ErrShort},
		{[]byte{3, 128, 0}, 1, nil, api.ErrOver},
		{slices.Concat([]byte{3}, over), 1, nil, api.ErrOver},
		{[]byte{3, 0}, 1, nil, api.ErrCount},
		{[]byte{3, 1}, 1, nil, api.ErrCount},
		{[]byte{0, 0}, 1, nil, api.ErrCount},
		{[]byte{3, 2, 6, 0}, 2, nil, api.ErrCount},
		// Of one number.
		{[]byte{3, 4, 6}, 1, nil, api.ErrCount},
		{[]byte{3, 4}, 1, nil, api.ErrCount},
		{slices.Concat([]byte{3}, slowShort(top-1), []byte{6}), 1024, nil, api.ErrCount},
		{slices.Concat([]byte{0}, slowShort(1<<63)), 1024, nil, api.ErrCount},
		{[]byte{3, 2}, 1, nil, api.ErrShort},
		{[]byte{9, 2, 1}, 1, nil, api.ErrShort},
		{[]byte{9, 2, 1, 1}, 1, []int64{-129}, api.OK},
		{[]byte{3, 2, 8}, 1, nil, api.ErrRange},
		{[]byte{3, 2, 7}, 1, []int64{-4}, api.OK},
		{[]byte{3, 2, 8, 1}, 1, nil, api.ErrRange},
		{[]byte{9, 2, 0, 2}, 1, nil, api.ErrRange},
		{[]byte{3, 4, 6}, 3, nil, api.ErrShort},
		{[]byte{3, 2, 6, 2, 4, 2, 2}, 3, []int64{3, 2, 1}, api.OK},
		{[]byte{3, 2, 6, 2, 4, 4, 2}, 3, nil, api.ErrCount},
		{[]byte{0, 2}, 1, []int64{0}, api.OK},
		{slices.Concat([]byte{64, 2}, bytes.Repeat([]byte{255}, 8)), 1, []int64{minInt}, api.OK},
		{slices.Concat([]byte{63, 2}, bytes.Repeat([]byte{255}, 8)), 1, nil, api.ErrRange},
		{slices.Concat([]byte{63, 2}, bytes.Repeat([]byte{255}, 7), []byte{127}), 1, []int64{-1 << 62}, api.OK},
		{slices.Concat([]byte{64, 2}, bytes.Repeat([]byte{255}, 7)), 1, nil, api.ErrShort},
		// Packed ones.
		{[]byte{1, 5, 1, 1}, 8, nil, api.ErrCount},
		{[]byte{1, 5}, 8, nil, api.ErrCount},
		{[]byte{1, 5, 1, 1}, 9, []int64{-1, 0, 0, 0, 0, 0, 0, 0, -1}, api.OK},
		{slices.Concat([]byte{0}, slowShort(top)), 1024, nil, api.ErrCount},
		{[]byte{1, 3}, 8, nil, api.ErrShort},
		{[]byte{2, 3, 1}, 8, nil, api.ErrShort},
		{[]byte{1, 3, 2}, 1, nil, api.ErrForm},
		{[]byte{1, 3, 128}, 7, nil, api.ErrForm},
		{[]byte{1, 3, 128, 9}, 7, nil, api.ErrForm},
		{[]byte{1, 3, 128}, 8, []int64{0, 0, 0, 0, 0, 0, 0, -1}, api.OK},
		{[]byte{1, 3, 1, 3, 1}, 9, []int64{-1, 0, 0, 0, 0, 0, 0, 0, -1}, api.OK},
		{[]byte{0, 3}, 8, make([]int64, 8), api.OK},
		{[]byte{0, 129, 2}, 1024, make([]int64, 1024), api.OK},
		{[]byte{0, 131, 2}, 1024, nil, api.ErrCount},
		{[]byte{1, 3, 1, 0}, 8, nil, api.ErrLong},
		{[]byte{0, 3, 0}, 8, nil, api.ErrLong},
		{[]byte{3, 2, 6, 255}, 1, nil, api.ErrLong},
	})
}

// TestP10_3_OtherForms: other runs, and a greater width, are decoded to the same numbers.
func TestP10_3_OtherForms(t *testing.T) {
	decodes(t, "hybrid", hybrid.Hybrid{}.Decode, []decoded{
		{[]byte{3, 16, 6, 4, 6}, 10, slices.Repeat([]int64{3}, 10), api.OK},
		{[]byte{9, 20, 6, 0}, 10, slices.Repeat([]int64{3}, 10), api.OK},
		{[]byte{8, 5, 6, 6, 6, 6, 6, 6, 6, 6, 6, 6, 0, 0, 0, 0, 0, 0}, 10, slices.Repeat([]int64{3}, 10), api.OK},
	})
}
