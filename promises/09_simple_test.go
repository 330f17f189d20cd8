package promises

import (
	"bytes"
	"slices"
	"testing"

	"corduroy/api"
	"corduroy/simple"
)

// simpleRows: how many numbers, and how many bits, by the selectors.
var simpleRows = [][2]int{{240, 0}, {120, 0}, {60, 1}, {30, 2}, {20, 3}, {15, 4}, {12, 5}, {10, 6}, {8, 7}, {7, 8}, {6, 10}, {5, 12}, {4, 15}, {3, 20}, {2, 30}, {1, 60}}

func smallBlock(l []int64) bool {
	return anyBlock(l) && !slices.ContainsFunc(l, func(v int64) bool { return slowZig(v) >= 1<<60 })
}

func slowSimpleWord(selector int, zigs []uint64) []byte {
	wide := simpleRows[selector][1]
	all := append(slowBits(zigs, wide), make([]bool, 64)...)[:60]
	return slowBytes(append(all, slowBits([]uint64{uint64(selector)}, 4)...))
}

func slowSimple(l []int64) []byte {
	var b []byte
	for len(l) > 0 {
		for selector, row := range simpleRows {
			if row[0] > len(l) {
				continue
			}
			var zigs []uint64
			fit := true
			for _, v := range l[:row[0]] {
				z := slowZig(v)
				zigs = append(zigs, z)
				fit = fit && slowWidth(z) <= row[1] && row[1] > 0 || fit && row[1] == 0 && z == 1
			}
			if fit {
				b = append(b, slowSimpleWord(selector, zigs)...)
				l = l[row[0]:]
				break
			}
		}
	}
	return b
}

func TestP9_1_Simple(t *testing.T) {
	laws(t, simple.Simple{}, "simple", smallBlock, slowSimple)
	ends(t, "simple", counted(simple.Simple{}))
	b, e := simple.Simple{}.Encode([]int64{-1, -1})
	is(t, "example 1", e, api.OK)
	list(t, "example 1", b, []byte{1, 0, 0, 64, 0, 0, 0, 224})
}

func TestP9_1_Takes(t *testing.T) {
	for _, x := range []struct {
		v  int64
		is bool
	}{{0, true}, {1<<59 - 1, true}, {-1 << 59, true}, {1 << 59, false}, {-1<<59 - 1, false}, {maxInt, false}, {minInt, false}} {
		is(t, "Takes", simple.Simple{}.Takes([]int64{x.v}), x.is)
		is(t, "Takes", simple.Simple{}.Takes([]int64{0, x.v, 0}), x.is)
		is(t, "Size", simple.Simple{}.Size([]int64{x.v}) == 8, x.is)
		b, e := simple.Simple{}.Encode([]int64{0, x.v})
		is(t, "Encode", e == api.OK, x.is)
		if !x.is {
			fails(t, "Encode", b, e, api.ErrCodec)
		}
	}
	_, e := simple.Simple{}.Encode(slices.Repeat([]int64{maxInt}, 1025))
	is(t, "ErrCount is named first", e, api.ErrCount)
}

// TestP9_1_Selectors: each selector, with as many numbers as it has, the widest ones.
func TestP9_1_Selectors(t *testing.T) {
	for selector, row := range simpleRows {
		z := uint64(1)
		if row[1] > 0 {
			z = 1<<row[1] - 1
		}
		l := slices.Repeat([]int64{slowZag(z)}, row[0])
		if selector == 2 {
			l[59] = 0
		}
		b, _ := simple.Simple{}.Encode(l)
		is(t, "one word", len(b), 8)
		is(t, "the selector", int(b[7]>>4), selector)
		back, e := simple.Simple{}.Decode(b, len(l))
		is(t, "Decode", e, api.OK)
		list(t, "Decode", back, l)
	}
}

func slowZag(z uint64) int64 {
	if z%2 == 1 {
		return -int64(z/2) - 1
	}
	return int64(z / 2)
}

func TestP9_2_Decode(t *testing.T) {
	nought := make([]byte, 8)
	word := func(selector, low byte) []byte { return []byte{low, 0, 0, 0, 0, 0, 0, selector << 4} }
	ones := func(n int) []int64 { return slices.Repeat([]int64{-1}, n) }
	decodes(t, "simple", simple.Simple{}.Decode, []decoded{
		{[]byte{1, 0, 0, 64, 0, 0, 0, 224}, 2, []int64{-1, -1}, api.OK},
		{nil, 1, nil, api.ErrShort},
		{word(15, 3)[:7], 1, nil, api.ErrShort},
		{word(15, 3), 1, []int64{-2}, api.OK},
		{word(15, 3), 2, nil, api.ErrShort},
		{slices.Concat(word(15, 3), word(15, 4)), 2, []int64{-2, 2}, api.OK},
		{slices.Concat(word(15, 3), word(14, 4)), 2, nil, api.ErrCount},
		{slices.Concat(word(15, 3), word(15, 4)), 1, nil, api.ErrLong},
		{append(word(15, 3), 0), 1, nil, api.ErrLong},
		{append(word(15, 3), 0), 2, nil, api.ErrShort},
		{word(14, 1), 1, nil, api.ErrCount},
		{word(0, 0), 239, nil, api.ErrCount},
		{word(0, 0), 240, ones(240), api.OK},
		{word(0, 1), 239, nil, api.ErrCount},
		{word(0, 1), 240, nil, api.ErrForm},
		{word(0, 1), 241, nil, api.ErrForm},
		{slices.Concat(word(0, 1), nought), 240, nil, api.ErrForm},
		{word(1, 0), 120, ones(120), api.OK},
		{word(1, 128), 120, nil, api.ErrForm},
		{[]byte{0, 0, 0, 0, 0, 0, 0, 0x18}, 120, nil, api.ErrForm},
		{slices.Concat(word(1, 0), word(1, 0)), 240, ones(240), api.OK},
		{[]byte{0, 0, 0, 0, 0, 0, 0, 0x81}, 8, nil, api.ErrForm},
		{[]byte{0, 0, 0, 0, 0, 0, 0, 0x88}, 8, nil, api.ErrForm},
		{[]byte{0, 0, 0, 0, 0, 0, 128, 0x80}, 8, []int64{0, 0, 0, 0, 0, 0, 0, 32}, api.OK},
		{[]byte{0, 0, 0, 0, 0, 0, 0, 0x91}, 7, nil, api.ErrForm},
		{[]byte{0, 0, 0, 0, 0, 0, 128, 0x90}, 7, []int64{0, 0, 0, 0, 0, 0, 64}, api.OK},
		{[]byte{0, 0, 0, 0, 0, 0, 0, 0xf8}, 1, []int64{1 << 58}, api.OK},
		{bytes.Repeat([]byte{255}, 8), 1, []int64{-1 << 59}, api.OK},
		{slices.Concat(word(12, 1), word(15, 1)), 5, []int64{-1, 0, 0, 0, -1}, api.OK},
	})
	for selector, row := range simpleRows {
		for bit := range 60 {
			b := slices.Clone(word(byte(selector), 0))
			b[bit/8] |= 1 << (bit % 8)
			_, e := simple.Simple{}.Decode(b, row[0])
			is(t, "a bit behind the numbers is 1", e == api.ErrForm, bit >= row[0]*row[1])
		}
	}
}

// TestP9_3_OtherForms: numbers in more words than need be are decoded too.
func TestP9_3_OtherForms(t *testing.T) {
	d := dice(13)
	for range 300 {
		var b []byte
		var l []int64
		for range 1 + d.below(4) {
			selector := d.below(16)
			row := simpleRows[selector]
			zigs := numbersOf(&d, row[0], row[1])
			for i := range zigs {
				if row[1] == 0 {
					zigs[i] = 1
				}
				l = append(l, slowZag(zigs[i]))
			}
			b = append(b, slowSimpleWord(selector, zigs)...)
		}
		back, e := simple.Simple{}.Decode(b, len(l))
		is(t, "Decode", e, api.OK)
		list(t, "Decode", back, l)
	}
}
