package promises

import (
	"fmt"
	"math"
	"slices"
	"strconv"
	"testing"

	"corduroy/real"
)

var (
	nan      = math.NaN()
	inf      = math.Inf(1)
	minusNaN = math.Float64frombits(0xfff8000000000001)
	minus0   = math.Copysign(0, -1)
	tiniest  = math.SmallestNonzeroFloat64
	normal   = 0x1p-1022
)

// inOrder are reals in the order of their ranks, the least first.
func inOrder() []float64 {
	return []float64{
		math.Float64frombits(1<<64 - 1), minusNaN, math.Float64frombits(0xfff0000000000001),
		-inf, -math.MaxFloat64, -1e300, -1 << 53, -2, -1.5, -1, -1e-300, -normal,
		-normal + tiniest, -2 * tiniest, -tiniest, minus0, 0, tiniest, 2 * tiniest, normal - tiniest,
		normal, 1e-300, 0.1, 0.25, 0.5, 1, 1.5, 2, 1<<53 - 1, 1 << 53, 1e300, math.MaxFloat64, inf,
		math.Float64frombits(0x7ff0000000000001), math.Float64frombits(0x7ff8000000000000), nan, math.Float64frombits(1<<63 - 1),
	}
}

// reals are reals of all kinds, in no order.
func reals() []float64 {
	d := dice(25)
	out := inOrder()
	for range 300 {
		out = append(out, math.Float64frombits(d.next()), float64(int64(d.next()>>d.below(64))), float64(d.below(100000))/100)
	}
	return out
}

func TestP20_1_Bits(t *testing.T) {
	for _, x := range []struct {
		f          float64
		bits, rank int64
	}{
		{0, 0, 0}, {minus0, math.MinInt64, -1}, {1, 0x3ff << 52, 0x3ff << 52}, {-1, -0x401 << 52, -(0x3ff << 52) - 1},
		{tiniest, 1, 1}, {-tiniest, math.MinInt64 + 1, -2}, {inf, 0x7ff << 52, 0x7ff << 52}, {-inf, -0x001 << 52, -(0x7ff << 52) - 1},
		{math.Float64frombits(1<<63 - 1), math.MaxInt64, math.MaxInt64}, {math.Float64frombits(1<<64 - 1), -1, math.MinInt64},
	} {
		is(t, fmt.Sprint("Bits of ", x.f), real.Bits(x.f), x.bits)
		is(t, fmt.Sprint("Rank of ", x.f), real.Rank(x.f), x.rank)
		is(t, fmt.Sprint("FromBits of ", x.bits), math.Float64bits(real.FromBits(x.bits)), math.Float64bits(x.f))
		is(t, fmt.Sprint("FromRank of ", x.rank), math.Float64bits(real.FromRank(x.rank)), math.Float64bits(x.f))
	}
}

func TestP20_1_Kind(t *testing.T) {
	list(t, "kinds", []int{real.MinusInf, real.Minus, real.MinusTiny, real.MinusZero, real.Zero, real.Tiny, real.Plus, real.Inf, real.NaN}, []int{0, 1, 2, 3, 4, 5, 6, 7, 8})
	for _, x := range []struct {
		f    float64
		kind int
	}{
		{-inf, 0}, {-math.MaxFloat64, 1}, {-1, 1}, {-normal, 1}, {-normal + tiniest, 2}, {-tiniest, 2}, {minus0, 3}, {0, 4}, {tiniest, 5}, {5e-324, 5}, {normal - tiniest, 5}, {normal, 6}, {0.5, 6}, {math.MaxFloat64, 6}, {inf, 7}, {nan, 8}, {minusNaN, 8}, {-nan, 8},
		{math.Float64frombits(0x7ff0000000000001), 8}, {math.Float64frombits(0xfff0000000000001), 8}, {math.Float64frombits(0x7fffffffffffffff), 8}, {math.Float64frombits(0xffffffffffffffff), 8},
	} {
		is(t, fmt.Sprint("Kind of ", x.f), real.Kind(x.f), x.kind)
	}
	for kind, name := range []string{"minus inf", "minus", "minus tiny", "minus zero", "zero", "tiny", "plus", "inf", "nan"} {
		is(t, "Name", real.Name(kind), name)
	}
	for _, kind := range []int{-1, 9, math.MinInt, math.MaxInt} {
		is(t, "Name of no kind", real.Name(kind), "")
	}
}

func TestP20_1_SameAndLess(t *testing.T) {
	l := inOrder()
	for i, a := range l {
		for k, b := range l {
			is(t, fmt.Sprint("Same ", a, b), real.Same(a, b), i == k)
			is(t, fmt.Sprint("Less ", a, b), real.Less(a, b), i < k)
		}
	}
}

func TestP20_1_Whole(t *testing.T) {
	for _, x := range []struct {
		f  float64
		v  int64
		is bool
	}{
		{0, 0, true}, {1, 1, true}, {-1, -1, true}, {1 << 53, 1 << 53, true}, {-1 << 53, -1 << 53, true}, {1<<53 - 1, 1<<53 - 1, true}, {1000000, 1000000, true},
		{1<<53 + 2, 0, false}, {-1<<53 - 2, 0, false}, {1e300, 0, false}, {1 << 63, 0, false}, {minus0, 0, false}, {0.5, 0, false}, {-0.5, 0, false}, {1<<51 + 0.5, 0, false}, {1 << 52, 1 << 52, true}, {tiniest, 0, false}, {-tiniest, 0, false}, {inf, 0, false}, {-inf, 0, false}, {nan, 0, false}, {minusNaN, 0, false},
	} {
		v, ok := real.Whole(x.f)
		is(t, fmt.Sprint("Whole of ", x.f), v, x.v)
		is(t, fmt.Sprint("Whole of ", x.f), ok, x.is)
	}
}

func TestP20_2_Map(t *testing.T) {
	list(t, "Map", real.Map([]int{3, 1, 2}, strconv.Itoa), []string{"3", "1", "2"})
	list(t, "Map of none", real.Map(nil, strconv.Itoa), nil)
	list(t, "Map", real.Map([]float64{1, 0.25}, real.Bits), []int64{0x3ff << 52, 0x3fd << 52})
	var order []int
	real.Map([]int{3, 1, 2}, func(i int) int { order = append(order, i); return 0 })
	list(t, "in order, once each", order, []int{3, 1, 2})
	apart(t, "Map", []int64{1, 2, 3}, func(l []int64) []int64 { return real.Map(l, func(v int64) int64 { return v }) })
}

func TestP20_3_Ranks(t *testing.T) {
	l := reals()
	for _, f := range l {
		is(t, "FromBits of Bits", math.Float64bits(real.FromBits(real.Bits(f))), math.Float64bits(f))
		is(t, "FromRank of Rank", math.Float64bits(real.FromRank(real.Rank(f))), math.Float64bits(f))
		is(t, "Same", real.Same(f, f), true)
		for _, g := range l {
			if f < g {
				is(t, "the lesser one has the lesser rank", real.Less(f, g), true)
				is(t, "the lesser one has the lesser rank", real.Less(g, f), false)
			}
			is(t, "a rank of its own", real.Rank(f) == real.Rank(g), math.Float64bits(f) == math.Float64bits(g))
		}
	}
	d := dice(26)
	for range 1000 {
		v := int64(d.next())
		is(t, "Rank of FromRank", real.Rank(real.FromRank(v)), v)
		is(t, "Bits of FromBits", real.Bits(real.FromBits(v)), v)
	}
	ranks := real.Map(inOrder(), real.Rank)
	is(t, "ranks rise", slices.IsSorted(ranks), true)
}
