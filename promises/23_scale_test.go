package promises

import (
	"fmt"
	"math"
	"slices"
	"testing"

	"corduroy/api"
	"corduroy/pick"
	"corduroy/real"
	"corduroy/scale"
)

// slowBy is a real by a scale, by the words of the chapter.
func slowBy(f float64, e int) (int64, bool) {
	power := 1.0
	for range e {
		power *= 10
	}
	t := f * power
	if math.IsNaN(t) || math.Abs(t) >= 1<<53 || math.Floor(t) != t {
		return 0, false
	}
	if math.Float64bits(float64(int64(t))/power) != math.Float64bits(f) {
		return 0, false
	}
	return int64(t), true
}

// slowScaleBy is the form by a scale, and how many exceptions it has.
func slowScaleBy(l []float64, e int) ([]byte, int) {
	var exceptions []byte
	var numbers []int64
	many, gap, ahead := 0, 0, int64(0)
	for _, f := range l {
		if v, ok := slowBy(f, e); ok {
			ahead = v
			gap++
		} else {
			exceptions = slices.Concat(exceptions, slowShort(uint64(gap)), slowFixed(math.Float64bits(f), 8))
			many++
			gap = 0
		}
		numbers = append(numbers, ahead)
	}
	own, _ := pick.Encode(numbers...)
	return slices.Concat([]byte{byte(e)}, slowShort(uint64(many)), exceptions, own), many
}

func slowScale(l []float64) []byte {
	best, fewest := slowScaleBy(l, 0)
	for e := 1; e <= 18; e++ {
		if b, many := slowScaleBy(l, e); many < fewest {
			best, fewest = b, many
		}
	}
	return best
}

func TestP23_1_By(t *testing.T) {
	for _, x := range []struct {
		f  float64
		e  int
		v  int64
		is bool
	}{
		{0.25, 2, 25, true}, {0.25, 1, 0, false}, {0.25, 0, 0, false}, {0.25, 3, 250, true}, {minus0, 0, 0, false}, {minus0, 5, 0, false}, {0, 0, 0, true}, {0, 18, 0, true},
		{-1.5, 1, -15, true}, {0.1, 1, 1, true}, {0.3, 1, 3, true}, {1.1, 1, 11, true}, {19.75, 2, 1975, true}, {19.99, 2, 0, false}, {1e-18, 18, 1, true},
		{1<<53 - 1, 0, 1<<53 - 1, true}, {1 << 53, 0, 0, false}, {-1<<53 + 1, 0, -1<<53 + 1, true}, {-1 << 53, 0, 0, false}, {1<<53 + 2, 0, 0, false},
		{1 << 52, 0, 1 << 52, true}, {1 << 52, 1, 0, false}, {900719925474099.1, 1, 9007199254740991, true}, {1e18, 0, 0, false}, {1e300, 0, 0, false}, {1e300, 18, 0, false},
		{tiniest, 0, 0, false}, {tiniest, 18, 0, false}, {nan, 0, 0, false}, {minusNaN, 3, 0, false}, {inf, 0, 0, false}, {-inf, 18, 0, false},
		{5, -1, 0, false}, {5, 19, 0, false}, {5, math.MinInt, 0, false}, {5, math.MaxInt, 0, false}, {5, 0, 5, true}, {math.Pi, 15, 3141592653589793, true},
	} {
		v, ok := scale.By(x.f, x.e)
		is(t, fmt.Sprint("By ", x.f, " ", x.e), v, x.v)
		is(t, fmt.Sprint("By ", x.f, " ", x.e), ok, x.is)
	}
	for _, f := range reals() {
		for e := range 19 {
			v, ok := scale.By(f, e)
			want, wantOK := slowBy(f, e)
			is(t, fmt.Sprint("By ", f, " ", e), v, want)
			is(t, fmt.Sprint("By ", f, " ", e), ok, wantOK)
		}
	}
}

func TestP23_1_From(t *testing.T) {
	for _, x := range []struct {
		v  int64
		e  int
		f  float64
		is bool
	}{
		{25, 2, 0.25, true}, {-15, 1, -1.5, true}, {0, 18, 0, true}, {1, 18, 1e-18, true}, {7, 0, 7, true}, {1, 3, 0.001, true},
		{math.MaxInt64, 0, 1 << 63, true}, {math.MinInt64, 0, -1 << 63, true}, {1<<53 + 1, 0, 1 << 53, true}, {1<<53 + 3, 0, 1<<53 + 4, true}, {math.MaxInt64, 18, float64(1<<63) / 1e18, true},
		{5, -1, 0, false}, {5, 19, 0, false}, {5, math.MinInt, 0, false}, {5, math.MaxInt, 0, false},
	} {
		f, ok := scale.From(x.v, x.e)
		is(t, fmt.Sprint("From ", x.v, " ", x.e), real.Bits(f), real.Bits(x.f))
		is(t, fmt.Sprint("From ", x.v, " ", x.e), ok, x.is)
	}
	power := 1.0
	for e := range 19 {
		f, _ := scale.From(123456789, e)
		is(t, fmt.Sprint("From ", e), f, 123456789/power)
		power *= 10
	}
}

func TestP23_1_Choose(t *testing.T) {
	for _, x := range []struct {
		l       []float64
		e, many int
	}{
		{nil, 0, 0}, {[]float64{5}, 0, 0}, {[]float64{1.5, 2.5}, 1, 0}, {[]float64{0.25, 0.5, nan}, 2, 1}, {[]float64{nan, inf}, 0, 2}, {[]float64{minus0}, 0, 1},
		{[]float64{1, 0.5}, 1, 0}, {[]float64{1, 1 << 52}, 0, 0}, {[]float64{0.5, 1 << 52}, 0, 1}, {[]float64{0.5, 0.25, 1 << 52}, 2, 1}, {[]float64{1e-18}, 18, 0},
	} {
		e, many := scale.Choose(x.l...)
		is(t, fmt.Sprint("Choose of ", x.l), e, x.e)
		is(t, fmt.Sprint("Choose of ", x.l), many, x.many)
	}
	for _, l := range realBlocks() {
		e, many := scale.Choose(l...)
		_, want := slowScaleBy(l, int(slowScale(l)[0]))
		is(t, "Choose", e, int(slowScale(l)[0]))
		is(t, "Choose", many, want)
	}
}

func TestP23_2_Encode(t *testing.T) {
	b, e := scale.Encode(1.5, 2.5)
	is(t, "example 2", e, api.OK)
	list(t, "example 2", b, append([]byte{1, 0}, slowOwn([]int64{15, 25})...))
	b, _ = scale.Encode(0.25, 0.5, nan)
	list(t, "Encode", b, slices.Concat([]byte{2, 1, 2}, slowFixed(math.Float64bits(nan), 8), slowOwn([]int64{25, 50, 50})))
	b, _ = scale.Encode(nan, inf, 3)
	list(t, "Encode", b, slices.Concat([]byte{0, 2, 0}, slowFixed(math.Float64bits(nan), 8), []byte{0}, slowFixed(math.Float64bits(inf), 8), slowOwn([]int64{0, 0, 3})))
	for _, l := range realBlocks() {
		b, e := scale.Encode(l...)
		is(t, "Encode", e, api.OK)
		list(t, fmt.Sprint("Encode of ", few(l)), b, slowScale(l))
	}
	for _, n := range []int{0, 1025, 3000} {
		b, e := scale.Encode(make([]float64, n)...)
		fails(t, "Encode of no block", b, e, api.ErrCount)
	}
	apart(t, "Encode", real.Map([]float64{1, 2.5, nan}, real.Bits), bitwise(func(l []float64) []byte { b, _ := scale.Encode(l...); return b }))
}

func TestP23_3_Decode(t *testing.T) {
	raw := slowFixed(math.Float64bits(minus0), 8)
	own := slowOwn([]int64{15, 25, 7})
	join := func(parts ...[]byte) []byte { return slices.Concat(parts...) }
	for _, x := range []struct {
		what string
		b    []byte
		n    int
		l    []float64
		e    api.Errno
	}{
		{"good", join([]byte{1, 0}, own), 3, []float64{1.5, 2.5, 0.7}, api.OK},
		{"another scale", join([]byte{18, 0}, own), 3, []float64{15e-18, 25e-18, 7e-18}, api.OK},
		{"an exception", join([]byte{1, 1, 2}, raw, own), 3, []float64{1.5, 2.5, minus0}, api.OK},
		{"two exceptions", join([]byte{1, 2, 0}, raw, []byte{1}, raw, own), 3, []float64{minus0, 2.5, minus0}, api.OK},
		{"three exceptions", join([]byte{1, 3, 0}, raw, []byte{0}, raw, []byte{0}, raw, own), 3, []float64{minus0, minus0, minus0}, api.OK},
		{"a great number", join([]byte{0, 0, 0}, slowFixed(1<<63-1, 8)), 1, []float64{1 << 63}, api.OK},
		{"no block", nil, 0, nil, api.ErrCount},
		{"no block", nil, -1, nil, api.ErrCount},
		{"no block", []byte{19}, 1025, nil, api.ErrCount},
		{"nothing", nil, 3, nil, api.ErrShort},
		{"no such scale", []byte{19}, 3, nil, api.ErrRange},
		{"no such scale", []byte{255, 128, 0}, 3, nil, api.ErrRange},
		{"a scale alone", []byte{18}, 3, nil, api.ErrShort},
		{"how many, too long", []byte{1, 128, 0}, 3, nil, api.ErrOver},
		{"how many, too short", []byte{1, 128}, 3, nil, api.ErrShort},
		{"too many exceptions", join([]byte{1, 4, 0}, raw, own), 3, nil, api.ErrCount},
		{"far too many exceptions", join([]byte{1}, slowShort(top)), 3, nil, api.ErrCount},
		{"no gap", []byte{1, 1}, 3, nil, api.ErrShort},
		{"a gap that is too long", []byte{1, 1, 128, 0}, 3, nil, api.ErrOver},
		{"a place that is n", join([]byte{1, 1, 3}, raw, own), 3, nil, api.ErrRange},
		{"a place that is n, and no bits", []byte{1, 1, 3}, 3, nil, api.ErrRange},
		{"a place that is n", join([]byte{1, 2, 1}, raw, []byte{1}, raw, own), 3, nil, api.ErrRange},
		{"a place far away", join([]byte{1, 2, 0}, raw, slowShort(top), raw, own), 3, nil, api.ErrRange},
		{"bits that lack", join([]byte{1, 1, 2}, raw[:7]), 3, nil, api.ErrShort},
		{"no form", join([]byte{1, 1, 2}, raw), 3, nil, api.ErrShort},
		{"no codec", join([]byte{1, 1, 2}, raw, []byte{6}), 3, nil, api.ErrTag},
		{"another count", join([]byte{1, 0}, own), 4, nil, api.ErrShort},
		{"more bytes", join([]byte{1, 0, 1, 2, 2, 2, 2}), 3, nil, api.ErrLong},
		{"a wrong form", join([]byte{1, 0, 3, 65}), 3, nil, api.ErrWidth},
	} {
		l, e := scale.Decode(x.b, x.n)
		is(t, "Decode of "+x.what, e, x.e)
		sameReals(t, "Decode of "+x.what, l, x.l)
	}
	ends(t, "scale", func(b []byte, n int) (int, api.Errno) { l, e := scale.Decode(b, n); return len(l), e })
	b, _ := scale.Encode(1, 2, nan)
	apart(t, "Decode", b, func(b []byte) []int64 { l, _ := scale.Decode(b, 3); return real.Map(l, real.Bits) })
}

func TestP23_4_ThereAndBack(t *testing.T) {
	for _, l := range realBlocks() {
		b, _ := scale.Encode(l...)
		back, e := scale.Decode(b, len(l))
		is(t, "Decode", e, api.OK)
		sameReals(t, "Decode", back, l)
		for e := range 19 {
			other, _ := slowScaleBy(l, e)
			back, wrong := scale.Decode(other, len(l))
			is(t, "Decode by another scale", wrong, api.OK)
			sameReals(t, "Decode by another scale", back, l)
		}
	}
	for _, f := range reals() {
		v, whole := real.Whole(f)
		if whole && math.Abs(f) < 1<<53 {
			by, ok := scale.By(f, 0)
			is(t, "whole ones are no exceptions", ok, true)
			is(t, "whole ones are themselves", by, v)
		}
	}
}
