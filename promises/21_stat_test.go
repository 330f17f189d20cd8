package promises

import (
	"fmt"
	"math"
	"slices"
	"testing"

	"corduroy/real"
	"corduroy/stat"
)

// slowStat is what is told of reals, looked at one by one.
func slowStat(l []float64) stat.Stat {
	var s stat.Stat
	s.Count = len(l)
	var ranks []int64
	for _, f := range l {
		s.Kinds[real.Kind(f)]++
		if math.Abs(f) <= 1<<53 && f == math.Trunc(f) && !(f == 0 && math.Signbit(f)) {
			s.Whole++
		}
		if f == f {
			ranks = append(ranks, real.Rank(f))
		}
	}
	if len(ranks) > 0 {
		s.Any = true
		s.Min, s.Max = real.FromRank(slices.Min(ranks)), real.FromRank(slices.Max(ranks))
	}
	return s
}

// told tests that two Stats are one, bit by bit.
func told(t *testing.T, what string, got, want stat.Stat) {
	t.Helper()
	if got != want || !real.Same(got.Min, want.Min) || !real.Same(got.Max, want.Max) {
		t.Errorf("%s: %v, and not %v", what, got, want)
	}
}

func TestP21_1_Of(t *testing.T) {
	told(t, "Of none", stat.Of(), stat.Stat{})
	told(t, "Of 0 and -0", stat.Of(0, minus0), stat.Stat{Count: 2, Kinds: [9]int{3: 1, 4: 1}, Whole: 1, Any: true, Min: minus0, Max: 0})
	told(t, "Of -0 and 0", stat.Of(minus0, 0), stat.Stat{Count: 2, Kinds: [9]int{3: 1, 4: 1}, Whole: 1, Any: true, Min: minus0, Max: 0})
	told(t, "Of NaN", stat.Of(nan), stat.Stat{Count: 1, Kinds: [9]int{8: 1}})
	told(t, "Of NaNs", stat.Of(nan, minusNaN), stat.Stat{Count: 2, Kinds: [9]int{8: 2}})
	told(t, "Of NaN and 5", stat.Of(nan, 5), stat.Stat{Count: 2, Kinds: [9]int{6: 1, 8: 1}, Whole: 1, Any: true, Min: 5, Max: 5})
	told(t, "Of -5 and NaN", stat.Of(-5, nan), stat.Stat{Count: 2, Kinds: [9]int{1: 1, 8: 1}, Whole: 1, Any: true, Min: -5, Max: -5})
	told(t, "Of infinities", stat.Of(inf, -inf), stat.Stat{Count: 2, Kinds: [9]int{0: 1, 7: 1}, Any: true, Min: -inf, Max: inf})
	told(t, "Of 3, 1.5, 7", stat.Of(3, 1.5, 7), stat.Stat{Count: 3, Kinds: [9]int{6: 3}, Whole: 2, Any: true, Min: 1.5, Max: 7})
	told(t, "Of -0", stat.Of(minus0), stat.Stat{Count: 1, Kinds: [9]int{3: 1}, Any: true, Min: minus0, Max: minus0})
	all := inOrder()
	told(t, "Of all kinds", stat.Of(all...), slowStat(all))
	l := []float64{3, 1, 2}
	stat.Of(l...)
	list(t, "is not changed", l, []float64{3, 1, 2})
}

func TestP21_1_AddAndJoin(t *testing.T) {
	for _, f := range inOrder() {
		told(t, "Add to none", stat.Stat{}.Add(f), slowStat([]float64{f}))
		told(t, "Join of none", stat.Stat{}.Join(stat.Of(f)), slowStat([]float64{f}))
		told(t, "Join of none", stat.Of(f).Join(stat.Of()), slowStat([]float64{f}))
		for _, g := range inOrder() {
			told(t, fmt.Sprint("Add ", f, g), stat.Of(f).Add(g), slowStat([]float64{f, g}))
			told(t, fmt.Sprint("Join ", f, g), stat.Of(f).Join(stat.Of(g)), slowStat([]float64{f, g}))
		}
	}
	told(t, "Join of nones", stat.Stat{}.Join(stat.Stat{}), stat.Stat{})
	s := stat.Of(1)
	s.Add(7)
	s.Join(stat.Of(-3))
	told(t, "is not changed", s, stat.Of(1))
}

func TestP21_2_May(t *testing.T) {
	for _, x := range []struct {
		l  []float64
		f  float64
		is bool
	}{
		{nil, 0, false}, {nil, nan, false}, {nil, minus0, false},
		{[]float64{nan}, 0, false}, {[]float64{nan}, nan, true}, {[]float64{nan}, minusNaN, true}, {[]float64{nan}, inf, false},
		{[]float64{1, 5}, nan, false}, {[]float64{1, 5}, 1, true}, {[]float64{1, 5}, 5, true}, {[]float64{1, 5}, 3.25, true}, {[]float64{1, 5}, 0.9999, false}, {[]float64{1, 5}, 5.0001, false},
		{[]float64{0}, minus0, false}, {[]float64{minus0}, 0, false}, {[]float64{minus0, 1}, 0, true}, {[]float64{-1, minus0}, 0, false}, {[]float64{-1, 0}, minus0, true},
		{[]float64{-inf, inf}, 7, true}, {[]float64{-inf, inf}, nan, false}, {[]float64{-5, -1}, -3, true}, {[]float64{-5, -1}, -6, false}, {[]float64{-5, -1}, inf, false}, {[]float64{nan, 2}, 2, true}, {[]float64{nan, 2}, 0, false},
	} {
		is(t, fmt.Sprint("May of ", x.l, x.f), stat.Of(x.l...).May(x.f), x.is)
	}
}

// TestP21_1_AnyStat: of any Stat there is an end.
func TestP21_1_AnyStat(t *testing.T) {
	for _, s := range []stat.Stat{{Count: -1, Min: nan, Max: minusNaN, Any: true}, {Kinds: [9]int{8: math.MaxInt}, Count: math.MaxInt, Min: 5, Max: -5}} {
		for _, f := range inOrder() {
			is(t, "an end", panics(func() { s.Add(f).Join(s).Join(stat.Of(f)).May(f) }), nil)
		}
	}
}

func TestP21_3_Parted(t *testing.T) {
	d := dice(27)
	l := reals()
	want := slowStat(l)
	told(t, "Of", stat.Of(l...), want)
	for range 30 {
		k := d.below(len(l) + 1)
		told(t, "parted", stat.Of(l[:k]...).Join(stat.Of(l[k:]...)), want)
		other := slices.Concat(l[k:], l[:k])
		slices.Reverse(other)
		told(t, "in another order", stat.Of(other...), want)
	}
	for _, f := range l {
		is(t, "what is among them may be", want.May(f), true)
	}
}
