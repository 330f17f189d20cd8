package promises

import (
	"fmt"
	"math"
	"slices"
	"testing"

	"corduroy/api"
	"corduroy/fcol"
	"corduroy/pick"
	"corduroy/real"
)

// slowRealForms are the forms of a block of reals, in their order.
func slowRealForms(l []float64) [][]byte {
	bits, _ := pick.Encode(real.Map(l, func(f float64) int64 { return int64(math.Float64bits(f)) })...)
	ranks, _ := pick.Encode(real.Map(l, func(f float64) int64 {
		v := int64(math.Float64bits(f))
		if v < 0 {
			return -1 - (v - math.MinInt64)
		}
		return v
	})...)
	ranks[0] += 8
	return [][]byte{bits, ranks, append([]byte{16}, slowXor(l)...), append([]byte{17}, slowScale(l)...)}
}

func slowRealBlock(l []float64) []byte {
	forms := slowRealForms(l)
	best := forms[0]
	for _, form := range forms {
		if len(form) < len(best) {
			best = form
		}
	}
	return best
}

func realColumnOf(n int, frames ...[]byte) []byte {
	return append([]byte("CRF1"), columnOf(n, frames...)[4:]...)
}

func slowRealColumn(l []float64) []byte {
	var frames [][]byte
	for block := range slices.Chunk(l, 1024) {
		frames = append(frames, slowFrame(len(block), slowRealBlock(block)))
	}
	return realColumnOf(len(l), frames...)
}

// realRows are rows of reals of many lengths.
func realRows() [][]float64 {
	blocks := realBlocks()
	last := blocks[len(blocks)-7:]
	return append(blocks, nil, slices.Concat(last[0], last[1]), slices.Concat(last[3], last[2], last[4][:5]), slices.Concat(last[5], last[6], inOrder()))
}

func TestP24_1_Block(t *testing.T) {
	marks := map[byte]int{}
	for _, l := range realBlocks() {
		want := slowRealBlock(l)
		b, e := fcol.Block(l...)
		is(t, "Block", e, api.OK)
		list(t, fmt.Sprint("Block of ", few(l)), b, want)
		marks[min(b[0]&^7, 16)+b[0]/17]++
		is(t, "at most 1 and 8 bytes for each", len(b) <= 1+8*len(l), true)
	}
	is(t, "each form is some block's", marks[0] > 0 && marks[8] > 0 && marks[16] > 0 && marks[17] > 0, true)
	for _, n := range []int{0, 1025, 3000} {
		b, e := fcol.Block(make([]float64, n)...)
		fails(t, "Block of no block", b, e, api.ErrCount)
	}
	apart(t, "Block", real.Map([]float64{1, 2.5, nan}, real.Bits), bitwise(func(l []float64) []byte { b, _ := fcol.Block(l...); return b }))
}

func TestP24_1_Unblock(t *testing.T) {
	l := []float64{1.5, minus0, 3.25}
	for _, form := range slowRealForms(l) {
		back, e := fcol.Unblock(form, 3)
		is(t, "Unblock", e, api.OK)
		sameReals(t, "Unblock", back, l)
		apart(t, "Unblock", form, func(b []byte) []int64 { l, _ := fcol.Unblock(b, 3); return real.Map(l, real.Bits) })
	}
	for tag, form := range slowForms([]int64{7, -2, 1 << 40}) {
		back, e := fcol.Unblock(append([]byte{byte(tag)}, form...), 3)
		is(t, "Unblock of bits", e, api.OK)
		sameReals(t, "Unblock of bits", back, real.Map([]int64{7, -2, 1 << 40}, real.FromBits))
		back, e = fcol.Unblock(append([]byte{byte(tag) + 8}, form...), 3)
		is(t, "Unblock of ranks", e, api.OK)
		sameReals(t, "Unblock of ranks", back, real.Map([]int64{7, -2, 1 << 40}, real.FromRank))
	}
	for _, x := range []struct {
		b []byte
		n int
		e api.Errno
	}{
		{nil, 0, api.ErrCount}, {nil, -1, api.ErrCount}, {[]byte{99}, 1025, api.ErrCount}, {nil, 1, api.ErrShort},
		{[]byte{0}, 1, api.ErrShort}, {[]byte{1, 128, 0}, 1, api.ErrOver}, {[]byte{1, 0, 0}, 1, api.ErrLong}, {[]byte{3, 65}, 1, api.ErrWidth},
		{[]byte{8}, 1, api.ErrShort}, {[]byte{9, 128, 0}, 1, api.ErrOver}, {[]byte{9, 0, 0}, 1, api.ErrLong}, {[]byte{11, 65}, 1, api.ErrWidth},
		{[]byte{16}, 1, api.ErrShort}, {make([]byte, 10), 1, api.ErrLong}, {[]byte{16, 0, 0, 0, 0, 0, 0, 0, 0, 1}, 1, api.ErrLong}, {[]byte{16, 0, 0, 0, 0, 0, 0, 0, 0, 2}, 2, api.ErrForm},
		{[]byte{17}, 1, api.ErrShort}, {[]byte{17, 19}, 1, api.ErrRange}, {[]byte{17, 0, 0, 6}, 1, api.ErrTag}, {[]byte{17, 0, 2}, 1, api.ErrCount},
	} {
		l, e := fcol.Unblock(x.b, x.n)
		is(t, fmt.Sprint("Unblock of ", x.b, " to ", x.n), e, x.e)
		is(t, "nothing beside an error", len(l), 0)
	}
	for mark := range 256 {
		l, e := fcol.Unblock([]byte{byte(mark), 0}, 1)
		known := mark <= 5 || mark >= 8 && mark <= 13 || mark == 16 || mark == 17
		is(t, fmt.Sprint("the mark ", mark), e == api.ErrTag, !known)
		is(t, fmt.Sprint("the mark ", mark), e == api.OK, mark == 1 || mark == 5 || mark == 9 || mark == 13)
		is(t, "nothing beside an error", len(l) == 1, e == api.OK)
	}
	ends(t, "fcol", func(b []byte, n int) (int, api.Errno) { l, e := fcol.Unblock(b, n); return len(l), e })
}

func TestP24_2_Encode(t *testing.T) {
	list(t, "Encode of nothing", fcol.Encode(), slices.Concat([]byte{67, 82, 70, 49}, make([]byte, 8), []byte{28, 223, 68, 33}))
	for _, l := range realRows() {
		list(t, fmt.Sprint("Encode of ", len(l)), fcol.Encode(l...), slowRealColumn(l))
	}
	apart(t, "Encode", real.Map([]float64{1, 2.5, nan}, real.Bits), bitwise(func(l []float64) []byte { return fcol.Encode(l...) }))
}

func TestP24_2_Decode(t *testing.T) {
	one := slowFrame(1, []byte{9, 10})
	full := slowFrame(1024, slowRealBlock(make([]float64, 1024)))
	good := realColumnOf(1025, full, one)
	for _, x := range []struct {
		what string
		b    []byte
		n    int
		e    api.Errno
	}{
		{"good", good, 1025, api.OK},
		{"nothing at all", realColumnOf(0), 0, api.OK},
		{"a full frame", realColumnOf(1024, full), 1024, api.OK},
		{"nothing", nil, 0, api.ErrShort},
		{"some of the head", []byte("CRF"), 0, api.ErrShort},
		{"a wrong head that is short", []byte("CRD"), 0, api.ErrForm},
		{"numbers' head", columnOf(1, one), 0, api.ErrForm},
		{"a head", []byte("CRF1"), 0, api.ErrShort},
		{"all but the last one", good[:len(good)-1], 0, api.ErrShort},
		{"an end that is short", realColumnOf(0)[:15], 0, api.ErrShort},
		{"one more", append(slices.Clone(good), 0), 0, api.ErrLong},
		{"an end of others", realColumnOf(2, one), 0, api.ErrCount},
		{"a broken end", broken(realColumnOf(1, one), 20), 0, api.ErrSum},
		{"a frame behind a short one", realColumnOf(2, one, one), 0, api.ErrCount},
		{"a broken one behind a short one", broken(realColumnOf(2, one, one), 24), 0, api.ErrCount},
		{"a length that can't be", slices.Concat([]byte("CRF1"), []byte{255, 255, 255, 255}), 0, api.ErrRange},
		{"a frame that is cut", slices.Concat([]byte("CRF1"), one[:11]), 0, api.ErrShort},
		{"a broken frame", broken(realColumnOf(1, one), 10), 0, api.ErrSum},
		{"a frame of too many", realColumnOf(1025, slowFrame(1025, []byte{9, 10})), 0, api.ErrCount},
		{"no mark", realColumnOf(1, slowFrame(1, []byte{18, 10})), 0, api.ErrTag},
		{"no mark", realColumnOf(1, slowFrame(1, []byte{14, 10})), 0, api.ErrTag},
		{"a wrong form", realColumnOf(1, slowFrame(1, []byte{9, 128, 0})), 0, api.ErrOver},
		{"a wrong form", realColumnOf(1, slowFrame(1, []byte{17, 19})), 0, api.ErrRange},
		{"a load that is short", realColumnOf(1, slowFrame(1, []byte{16, 1})), 0, api.ErrShort},
	} {
		l, e := fcol.Decode(x.b)
		is(t, "Decode of "+x.what, e, x.e)
		is(t, "Decode of "+x.what, len(l), x.n)
		s, e := fcol.Stats(x.b)
		is(t, "Stats of "+x.what, e, x.e)
		told(t, "Stats of "+x.what, s, slowStat(l))
	}
	apart(t, "Decode", good, func(b []byte) []int64 { l, _ := fcol.Decode(b); return real.Map(l, real.Bits) })
}

func TestP24_3_ThereAndBack(t *testing.T) {
	for _, l := range realRows() {
		b := fcol.Encode(l...)
		back, e := fcol.Decode(b)
		is(t, "Decode", e, api.OK)
		sameReals(t, "Decode", back, l)
		s, e := fcol.Stats(b)
		is(t, "Stats", e, api.OK)
		told(t, "Stats", s, slowStat(l))
	}
	for i, l := range realBlocks() {
		if len(l) > 1024 {
			continue
		}
		form := slowRealForms(l)[i%4]
		if len(form) > 8193 {
			continue
		}
		back, e := fcol.Decode(realColumnOf(len(l), slowFrame(len(l), form)))
		is(t, "Decode of any form", e, api.OK)
		sameReals(t, "Decode of any form", back, l)
	}
}
