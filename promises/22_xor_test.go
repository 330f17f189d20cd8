package promises

import (
	"fmt"
	"math"
	"slices"
	"testing"

	"corduroy/api"
	"corduroy/real"
	"corduroy/xor"
)

// bitsOf are bits that are written with their widths: pairs of a number and a width.
func bitsOf(pairs ...uint64) []bool {
	var out []bool
	for i := 0; i < len(pairs); i += 2 {
		out = append(out, slowBits(pairs[i:i+1], int(pairs[i+1]))...)
	}
	return out
}

func slowXor(l []float64) []byte {
	ahead := math.Float64bits(l[0])
	out := bitsOf(ahead, 64)
	top, end, any := 0, 0, false
	for _, f := range l[1:] {
		x := math.Float64bits(f) ^ ahead
		ahead = math.Float64bits(f)
		if x == 0 {
			out = append(out, false)
			continue
		}
		a, z := 64-slowWidth(x), 0
		for x>>z&1 == 0 {
			z++
		}
		a = min(a, 31)
		if any && a >= top && z >= end {
			out = append(out, bitsOf(1, 1, 0, 1)...)
		} else {
			top, end, any = a, z, true
			out = append(out, bitsOf(1, 1, 1, 1, uint64(a), 5, uint64(64-a-z-1), 6)...)
		}
		out = append(out, bitsOf(x>>end, uint64(64-top-end))...)
	}
	return slowBytes(out)
}

// realBlocks are blocks of reals of many shapes and lengths.
func realBlocks() [][]float64 {
	d := dice(28)
	out := [][]float64{inOrder(), {minus0}, {nan, nan, nan}, {0, minus0, 0}, {1.5, 2.5}, {0.25, 0.5, nan}}
	for _, f := range inOrder() {
		out = append(out, []float64{f}, []float64{1, f, f, 2})
	}
	for _, n := range []int{1, 2, 9, 100, 1023, 1024} {
		at := 20.0
		var walk, money, whole, any, same []float64
		for i := range n {
			at += float64(d.below(2000)-1000) / 1000
			walk = append(walk, at)
			money = append(money, float64(d.below(1000000))/100)
			whole = append(whole, float64(i*3))
			any = append(any, math.Float64frombits(d.next()))
			same = append(same, math.Float64frombits(d.next()>>40<<20|0x3ff<<52))
		}
		out = append(out, walk, money, whole, any, same, slices.Repeat([]float64{at}, n), slices.Repeat([]float64{nan}, n))
	}
	return out
}

// sameReals tests that reals are the same, bit by bit.
func sameReals(t *testing.T, what string, got, want []float64) {
	t.Helper()
	list(t, what, real.Map(got, real.Bits), real.Map(want, real.Bits))
}

// bitwise makes a call on reals one on their bits.
func bitwise(by func(l []float64) []byte) func(l []int64) []byte {
	return func(l []int64) []byte { return by(real.Map(l, real.FromBits)) }
}

func TestP22_1_Encode(t *testing.T) {
	for _, l := range realBlocks() {
		b, e := xor.Encode(l...)
		is(t, "Encode", e, api.OK)
		list(t, fmt.Sprint("Encode of ", few(l)), b, slowXor(l))
		is(t, "Size", xor.Size(l...), len(b))
	}
	b, _ := xor.Encode(1)
	list(t, "example 1", b, []byte{0, 0, 0, 0, 0, 0, 240, 63})
	b, _ = xor.Encode(1, 1)
	list(t, "example 2", b, []byte{0, 0, 0, 0, 0, 0, 240, 63, 0})
	for _, n := range []int{0, 1025, 4000} {
		b, e := xor.Encode(make([]float64, n)...)
		fails(t, "Encode of no block", b, e, api.ErrCount)
		is(t, "Size of no block", xor.Size(make([]float64, n)...), 0)
	}
	apart(t, "Encode", real.Map([]float64{1, 2, 2, 0.1}, real.Bits), bitwise(func(l []float64) []byte { b, _ := xor.Encode(l...); return b }))
}

func TestP22_2_Decode(t *testing.T) {
	one := bitsOf(math.Float64bits(1), 64)
	for _, x := range []struct {
		what string
		bits []bool
		n    int
		l    []float64
		e    api.Errno
	}{
		{"one", one, 1, []float64{1}, api.OK},
		{"no block", one, 0, nil, api.ErrCount},
		{"no block", one, -1, nil, api.ErrCount},
		{"no block", one, 1025, nil, api.ErrCount},
		{"no block of nothing", nil, 1025, nil, api.ErrCount},
		{"nothing", nil, 1, nil, api.ErrShort},
		{"7 bytes", one[:56], 1, nil, api.ErrShort},
		{"no bit of the second", one, 2, nil, api.ErrShort},
		{"a byte too many", slices.Concat(one, make([]bool, 8)), 1, nil, api.ErrLong},
		{"a byte too many, of ones", slices.Concat(one, bitsOf(255, 8)), 1, nil, api.ErrLong},
		{"the same again", slices.Concat(one, bitsOf(0, 8)), 2, []float64{1, 1}, api.OK},
		{"the same, 8 times", slices.Concat(one, bitsOf(0, 8)), 9, slices.Repeat([]float64{1}, 9), api.OK},
		{"the same, 9 times", slices.Concat(one, bitsOf(0, 8)), 10, nil, api.ErrShort},
		{"a 1 behind the last one", slices.Concat(one, bitsOf(128, 8)), 2, nil, api.ErrForm},
		{"a 1 behind the last one", slices.Concat(one, bitsOf(2, 8)), 2, nil, api.ErrForm},
		{"more bytes behind a 1", slices.Concat(one, bitsOf(2, 16)), 2, nil, api.ErrLong},
		{"no window", slices.Concat(one, bitsOf(1, 1, 0, 1, 0, 14)), 2, nil, api.ErrForm},
		{"no window, and no bits", slices.Concat(one, bitsOf(0, 6, 1, 1, 0, 1)), 8, nil, api.ErrForm},
		{"no second bit", slices.Concat(one, bitsOf(0, 7, 1, 1)), 9, nil, api.ErrShort},
		{"no bits of a", slices.Concat(one, bitsOf(0, 6, 1, 1, 1, 1)), 8, nil, api.ErrShort},
		{"no bits of how many", slices.Concat(one, bitsOf(0, 1, 1, 1, 1, 1, 31, 5)), 3, nil, api.ErrShort},
		{"too many bits", slices.Concat(one, bitsOf(1, 1, 1, 1, 2, 5, 62, 6, 0, 200)), 2, nil, api.ErrRange},
		{"too many bits, and none there", slices.Concat(one, bitsOf(0, 3, 1, 1, 1, 1, 31, 5, 63, 6)), 5, nil, api.ErrRange},
		{"just as many bits", slices.Concat(one, bitsOf(1, 1, 1, 1, 2, 5, 61, 6, 0, 62)), 2, []float64{1, 1}, api.OK},
		{"bits that lack", slices.Concat(one, bitsOf(1, 1, 1, 1, 2, 5, 61, 6, 0, 51)), 2, nil, api.ErrShort},
		{"a window that is taken", slices.Concat(one, bitsOf(1, 1, 1, 1, 11, 5, 0, 6, 1, 1, 1, 1, 0, 1, 1, 1)), 3, []float64{1, 0.5, 1}, api.OK},
	} {
		l, e := xor.Decode(slowBytes(x.bits), x.n)
		is(t, "Decode of "+x.what, e, x.e)
		sameReals(t, "Decode of "+x.what, l, x.l)
	}
	ends(t, "xor", func(b []byte, n int) (int, api.Errno) { l, e := xor.Decode(b, n); return len(l), e })
	ends(t, "xor behind 8 bytes", func(b []byte, n int) (int, api.Errno) {
		l, e := xor.Decode(append(make([]byte, 8), b...), n)
		return len(l), e
	})
	b, _ := xor.Encode(1, 2, 0.1)
	apart(t, "Decode", b, func(b []byte) []int64 { l, _ := xor.Decode(b, 3); return real.Map(l, real.Bits) })
}

func TestP22_3_ThereAndBack(t *testing.T) {
	for i, l := range realBlocks() {
		b, _ := xor.Encode(l...)
		back, e := xor.Decode(b, len(l))
		is(t, "Decode", e, api.OK)
		sameReals(t, "Decode", back, l)
		if i%5 > 0 {
			continue
		}
		for k := 0; k < len(b); k += 1 + k/50 {
			got, e := xor.Decode(b[:k], len(l))
			fails(t, "Decode of fewer bytes", got, e, api.ErrShort)
		}
		_, e = xor.Decode(append(slices.Clone(b), 0), len(l))
		is(t, "Decode of more bytes", e, api.ErrLong)
	}
}

// TestP22_3_OtherForms: other windows than need be, and an x of 0 written in any way, are decoded too.
func TestP22_3_OtherForms(t *testing.T) {
	d := dice(29)
	for range 300 {
		l := real.Map(signedOf(&d, 1+d.below(20), 64), real.FromBits)
		for i := range l {
			if i > 0 && d.below(3) == 0 {
				l[i] = l[i-1]
			}
		}
		bits := bitsOf(math.Float64bits(l[0]), 64)
		for i := 1; i < len(l); i++ {
			bits = append(bits, bitsOf(1, 1)...)
			if i == 1 || d.below(2) == 0 {
				bits = append(bits, bitsOf(1, 1, 0, 5, 63, 6)...)
			} else {
				bits = append(bits, bitsOf(0, 1)...)
			}
			bits = append(bits, bitsOf(math.Float64bits(l[i])^math.Float64bits(l[i-1]), 64)...)
		}
		back, e := xor.Decode(slowBytes(bits), len(l))
		is(t, "Decode", e, api.OK)
		sameReals(t, "Decode", back, l)
	}
}
