package promises

import (
	"fmt"
	"slices"
	"testing"

	"corduroy/api"
	"corduroy/codec"
	"corduroy/plain"
)

var names = []string{"plain", "zvar", "simple", "hybrid", "pfor", "delta"}

// slowForms are all codecs' forms of a block, by their tags; none of those that do not take it.
func slowForms(l []int64) [][]byte {
	out := [][]byte{slowPlain(l), slowZvar(l), nil, slowHybrid(l), slowPfor(l), slowDelta(l)}
	if smallBlock(l) {
		out[2] = slowSimple(l)
	}
	return out
}

func TestP13_1_Tags(t *testing.T) {
	list(t, "tags", []int{codec.Plain, codec.Zvar, codec.Simple, codec.Hybrid, codec.Pfor, codec.Delta}, []int{0, 1, 2, 3, 4, 5})
	for tag := range 256 {
		c, ok := codec.Of(uint8(tag))
		is(t, fmt.Sprint("Of ", tag), ok, tag < 6)
		if tag < 6 {
			is(t, "Name", c.Name(), names[tag])
		} else if c != nil {
			t.Errorf("Of %d: a codec beside false", tag)
		}
	}
}

func TestP13_1_All(t *testing.T) {
	var tags []uint8
	var all []string
	walk := codec.All()
	for range 2 {
		tags, all = nil, nil
		for tag, c := range walk {
			tags, all = append(tags, tag), append(all, c.Name())
		}
		list(t, "All", tags, []uint8{0, 1, 2, 3, 4, 5})
		list(t, "All", all, names)
	}
	many := 0
	for tag := range walk {
		many++
		if tag == 2 {
			break
		}
	}
	is(t, "All, till one stops", many, 3)
}

// costsOf are costs of these sizes, -1 of a codec that does not take the block.
func costsOf(sizes ...int) []codec.Cost {
	var costs []codec.Cost
	for tag, size := range sizes {
		costs = append(costs, codec.Cost{Tag: uint8(tag), Takes: size >= 0, Size: max(size, 0)})
	}
	return costs
}

func TestP13_1_Costs(t *testing.T) {
	costs := codec.Costs(5)
	list(t, "example 1", costs, costsOf(8, 1, 8, 6, 10, 1))
	list(t, "Costs", codec.Costs(1<<60), costsOf(8, 9, -1, 64, 10, 9))
	for _, l := range [][]int64{nil, make([]int64, 1025)} {
		list(t, "Costs of no block", codec.Costs(l...), costsOf(-1, -1, -1, -1, -1, -1))
	}
	for i, l := range blocks() {
		if i%5 > 0 {
			continue
		}
		var want []codec.Cost
		for tag, form := range slowForms(l) {
			want = append(want, codec.Cost{Tag: uint8(tag), Takes: form != nil, Size: len(form)})
		}
		list(t, "Costs", codec.Costs(l...), want)
	}
}

func TestP13_2_EncodeAndDecode(t *testing.T) {
	l := []int64{1, -2, 3}
	forms := slowForms(l)
	for tag := range 256 {
		b, e := codec.Encode(uint8(tag), l)
		if tag > 5 {
			fails(t, "Encode without a codec", b, e, api.ErrTag)
			_, e = codec.Encode(uint8(tag), nil)
			is(t, "ErrTag is named first", e, api.ErrTag)
			back, e := codec.Decode(uint8(tag), nil, 1)
			fails(t, "Decode without a codec", back, e, api.ErrTag)
			_, e = codec.Decode(uint8(tag), nil, 0)
			is(t, "ErrTag is named first", e, api.ErrTag)
			continue
		}
		is(t, "Encode", e, api.OK)
		list(t, "Encode", b, forms[tag])
		back, e := codec.Decode(uint8(tag), forms[tag], 3)
		is(t, "Decode", e, api.OK)
		list(t, "Decode", back, l)
		apart(t, "Encode", l, func(l []int64) []byte { b, _ := codec.Encode(uint8(tag), l); return b })
		b, e = codec.Encode(uint8(tag), nil)
		fails(t, "Encode of no block", b, e, api.ErrCount)
		back, e = codec.Decode(uint8(tag), forms[tag], 1025)
		fails(t, "Decode to no block", back, e, api.ErrCount)
		back, e = codec.Decode(uint8(tag), nil, 3)
		fails(t, "Decode of nothing", back, e, api.ErrShort)
		back, e = codec.Decode(uint8(tag), append(slices.Clone(forms[tag]), 0), 3)
		fails(t, "Decode of more", back, e, api.ErrLong)
	}
	b, e := codec.Encode(codec.Simple, []int64{maxInt})
	fails(t, "Encode of what it does not take", b, e, api.ErrCodec)
}

func TestP13_3_EachBlockHasACodec(t *testing.T) {
	for _, l := range blocks() {
		is(t, "plain takes it", codec.Costs(l...)[codec.Plain], codec.Cost{Tag: 0, Takes: true, Size: 8 * len(l)})
	}
	var c plain.Codec
	c, _ = codec.Of(codec.Plain)
	is(t, "plain takes it", c.Takes([]int64{minInt}), true)
}
