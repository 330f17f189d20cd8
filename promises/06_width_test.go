package promises

import (
	"fmt"
	"math"
	"slices"
	"testing"

	"corduroy/width"
)

const (
	minInt = math.MinInt64
	maxInt = math.MaxInt64
)

func signedOf(d *dice, n, wide int) []int64 {
	l := make([]int64, n)
	for i, v := range numbersOf(d, n, wide) {
		l[i] = int64(v)
		if d.below(2) == 0 {
			l[i] = -l[i]
		}
	}
	return l
}

func TestP6_1_Widths(t *testing.T) {
	is(t, "Of 0", width.Of(0), 0)
	is(t, "Of 255", width.Of(255), 8)
	for k := range 64 {
		is(t, fmt.Sprint("Of 2^", k), width.Of(1<<k), k+1)
		is(t, fmt.Sprint("Of 2^", k, " less 1"), width.Of(1<<k-1), k)
	}
	is(t, "Of the greatest", width.Of(top), 64)
	is(t, "Most of none", width.Most(), 0)
	is(t, "Most", width.Most(0), 0)
	is(t, "Most", width.Most(3, 9, 1), 4)
	is(t, "Most", width.Most(top, 9, 1), 64)
	is(t, "Most", width.Most(0, 0, 1<<40), 41)
}

func TestP6_1_Count(t *testing.T) {
	is(t, "Count of none", width.Count(), [65]int{})
	want := [65]int{}
	want[0], want[1], want[2], want[64] = 2, 1, 3, 1
	is(t, "Count", width.Count(0, 3, 2, top, 1, 0, 3), want)
	l := []uint64{1, 2, 3}
	width.Count(l...)
	width.Most(l...)
	list(t, "is not changed", l, []uint64{1, 2, 3})
}

func TestP6_2_Least(t *testing.T) {
	for _, x := range []struct {
		l  []int64
		v  int64
		is bool
	}{{nil, 0, false}, {[]int64{5}, 5, true}, {[]int64{5, -7, 3}, -7, true}, {[]int64{maxInt, minInt}, minInt, true}, {[]int64{maxInt}, maxInt, true}, {[]int64{3, 4, 9, 2}, 2, true}, {[]int64{1, 4}, 1, true}} {
		v, ok := width.Least(x.l...)
		is(t, fmt.Sprint("Least of ", x.l), v, x.v)
		is(t, fmt.Sprint("Least of ", x.l), ok, x.is)
	}
}

func TestP6_2_Offsets(t *testing.T) {
	list(t, "Offsets", width.Offsets(-1, -1, 3), []uint64{0, 4})
	list(t, "Offsets of none", width.Offsets(5), nil)
	list(t, "Offsets go round", width.Offsets(minInt, maxInt, minInt, 0), []uint64{top, 0, 1 << 63})
	list(t, "Offsets go round", width.Offsets(1, 0, minInt), []uint64{top, 1<<63 - 1})
	list(t, "Back", width.Back(-1, 0, 4), []int64{-1, 3})
	list(t, "Back of none", width.Back(5), nil)
	list(t, "Back goes round", width.Back(minInt, top, 0, 1<<63), []int64{maxInt, minInt, 0})
	list(t, "Back goes round", width.Back(maxInt, 1), []int64{minInt})
	apart(t, "Offsets", []int64{1, 2, 3}, func(l []int64) []uint64 { return width.Offsets(0, l...) })
	apart(t, "Back", []uint64{1, 2, 3}, func(l []uint64) []int64 { return width.Back(0, l...) })
}

func TestP6_2_Deltas(t *testing.T) {
	list(t, "Deltas", width.Deltas(5, 7, 6), []int64{2, -1})
	list(t, "Deltas of none", width.Deltas(), nil)
	list(t, "Deltas of one", width.Deltas(5), nil)
	list(t, "Deltas go round", width.Deltas(maxInt, minInt, maxInt), []int64{1, -1})
	list(t, "Sums", width.Sums(5, 2, -1), []int64{5, 7, 6})
	list(t, "Sums of none", width.Sums(5), []int64{5})
	list(t, "Sums go round", width.Sums(maxInt, 1, -1), []int64{maxInt, minInt, maxInt})
	apart(t, "Deltas", []int64{1, 2, 3}, func(l []int64) []int64 { return width.Deltas(l...) })
	apart(t, "Sums", []int64{1, 2, 3}, func(l []int64) []int64 { return width.Sums(7, l...) })
}

func TestP6_3_ThereAndBack(t *testing.T) {
	d := dice(9)
	for range 300 {
		l := signedOf(&d, 1+d.below(30), d.below(65))
		from := int64(d.next())
		list(t, "Back of Offsets", width.Back(from, width.Offsets(from, l...)...), l)
		list(t, "Sums of Deltas", width.Sums(l[0], width.Deltas(l...)...), l)
		lowest, ok := width.Least(l...)
		is(t, "Least", ok, true)
		is(t, "Least", lowest, slices.Min(l))
		offsets := width.Offsets(lowest, l...)
		is(t, "the greatest's offset", offsets[slices.Index(l, slices.Max(l))], slices.Max(offsets))
	}
}
