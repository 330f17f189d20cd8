package promises

import (
	"fmt"
	"math"
	"slices"
	"testing"

	"corduroy/api"
	"corduroy/codec"
	"corduroy/least"
	"corduroy/pick"
)

// slowOwn is a block's own form, the slow way.
func slowOwn(l []int64) []byte {
	var best []byte
	for tag, form := range slowForms(l) {
		if form != nil && (best == nil || len(form)+1 < len(best)) {
			best = append([]byte{byte(tag)}, form...)
		}
	}
	return best
}

func TestP14_1_ChooseAndEncode(t *testing.T) {
	cost, e := pick.Choose(5)
	is(t, "example 1", e, api.OK)
	is(t, "example 1", cost, codec.Cost{Tag: codec.Zvar, Takes: true, Size: 1})
	b, e := pick.Encode(5)
	is(t, "example 1", e, api.OK)
	list(t, "example 1", b, []byte{1, 10})
	b, _ = pick.Encode(slices.Repeat([]int64{-7}, 1000)...)
	list(t, "Encode", b, []byte{3, 4, 208, 15, 13})
	b, _ = pick.Encode(1<<62, -1<<62)
	is(t, "Encode by plain", b[0], codec.Plain)
	for i, l := range blocks() {
		if i%2 > 0 {
			continue
		}
		want := slowOwn(l)
		b, e := pick.Encode(l...)
		is(t, "Encode", e, api.OK)
		list(t, fmt.Sprint("Encode of ", few(l)), b, want)
		cost, e := pick.Choose(l...)
		is(t, "Choose", e, api.OK)
		is(t, "Choose", cost, codec.Cost{Tag: want[0], Takes: true, Size: len(want) - 1})
	}
	apart(t, "Encode", []int64{1, 2, 3}, func(l []int64) []byte { b, _ := pick.Encode(l...); return b })
}

// TestP14_1_EachCodec: each codec is the best one of some block.
func TestP14_1_EachCodec(t *testing.T) {
	d := dice(16)
	small := make([]int64, 60, 67)
	for i := range small {
		small[i] = -int64(d.below(2))
	}
	for tag, l := range [][]int64{signedOf(&d, 9, 64), {5}, append(small, 100, 90, 120, 77, 101, 93, 115), slices.Repeat([]int64{-7}, 1000), near(&d, 1000, 4), rising(1<<40, 1000, 1000)} {
		want := slowOwn(l)
		is(t, "the best one", int(want[0]), tag)
		b, _ := pick.Encode(l...)
		list(t, "Encode", b, want)
	}
}

func TestP14_1_NoBlock(t *testing.T) {
	for _, n := range []int{0, 1025, 5000} {
		l := make([]int64, n)
		cost, e := pick.Choose(l...)
		is(t, "Choose of no block", e, api.ErrCount)
		is(t, "Choose of no block", cost, codec.Cost{})
		b, e := pick.Encode(l...)
		fails(t, "Encode of no block", b, e, api.ErrCount)
	}
}

func TestP14_2_Decode(t *testing.T) {
	l := []int64{5, 6, 8}
	for tag, form := range slowForms(l) {
		back, e := pick.Decode(append([]byte{byte(tag)}, form...), 3)
		is(t, "Decode", e, api.OK)
		list(t, "Decode", back, l)
	}
	decodes(t, "pick", pick.Decode, []decoded{
		{[]byte{1, 10}, 1, []int64{5}, api.OK},
		{nil, 0, nil, api.ErrCount},
		{nil, -1, nil, api.ErrCount},
		{nil, 1025, nil, api.ErrCount},
		{[]byte{9}, 1025, nil, api.ErrCount},
		{[]byte{1, 10}, math.MinInt, nil, api.ErrCount},
		{nil, 1, nil, api.ErrShort},
		{[]byte{6}, 1, nil, api.ErrTag},
		{[]byte{6, 10}, 1, nil, api.ErrTag},
		{[]byte{255, 10}, 1, nil, api.ErrTag},
		{[]byte{1}, 1, nil, api.ErrShort},
		{[]byte{1, 128, 0}, 1, nil, api.ErrOver},
		{[]byte{1, 10, 1}, 1, nil, api.ErrLong},
		{[]byte{3, 65}, 1, nil, api.ErrWidth},
		{[]byte{3, 0, 4}, 1, nil, api.ErrCount},
		{[]byte{5, 0, 2, 1, 6}, 3, nil, api.ErrForm},
		{[]byte{4, 0, 0, 0, 0, 0, 0, 0, 0, 0, 1, 1}, 1, nil, api.ErrRange},
	})
	ends(t, "pick", func(b []byte, n int) (int, api.Errno) { l, e := pick.Decode(b, n); return len(l), e })
	apart(t, "Decode", []byte{1, 2, 4, 5}, func(b []byte) []int64 { l, _ := pick.Decode(b, 3); return l })
}

func TestP14_3_TheShortest(t *testing.T) {
	for _, l := range blocks() {
		b, _ := pick.Encode(l...)
		shortest := math.MaxInt
		for tag := range uint8(6) {
			if form, e := codec.Encode(tag, l); e == api.OK {
				shortest = min(shortest, len(form))
			}
		}
		is(t, "1 byte more than the shortest", len(b), shortest+1)
		is(t, "at most 1 and 8 for each number", len(b) <= 1+8*len(l), true)
		back, e := pick.Decode(b, len(l))
		is(t, "Decode", e, api.OK)
		list(t, "Decode", back, l)
	}
}

func TestLeastOf(t *testing.T) {
	size := func(s string) int { return len(s) }
	for _, x := range []struct {
		l    []string
		best string
		some bool
	}{{nil, "", false}, {[]string{"aa", "b", "cc", "d"}, "b", true}, {[]string{"a"}, "a", true}, {[]string{"aaa", "bb", ""}, "", true}} {
		best, some := least.Of(slices.Values(x.l), size)
		is(t, "Of", best, x.best)
		is(t, "Of", some, x.some)
	}
}
