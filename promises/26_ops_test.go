package promises

import (
	"fmt"
	"slices"
	"testing"

	"corduroy/api"
	"corduroy/column"
	"corduroy/fcol"
	"corduroy/ops"
	"corduroy/real"
)

// other is a column of 5, 5 and 7 that is not its own bytes.
func other() []byte {
	return columnOf(3, slowFrame(3, append([]byte{0}, slowPlain([]int64{5, 5, 7})...)))
}

func TestP26_1_Own(t *testing.T) {
	b, e := ops.Own(other())
	is(t, "Own", e, api.OK)
	list(t, "Own", b, column.Encode(5, 5, 7))
	for _, l := range rows() {
		own := column.Encode(l...)
		b, e := ops.Own(own)
		is(t, "Own", e, api.OK)
		list(t, "Own", b, own)
	}
	apart(t, "Own", other(), func(b []byte) []byte { b, _ = ops.Own(b); return b })
}

// TestP26_1_Wrong: what is wrong with a column is told, of the first one first.
func TestP26_1_Wrong(t *testing.T) {
	good := column.Encode(9, 3)
	worst := []byte("X")
	for name, x := range wrongColumns() {
		b, e := ops.Own(x.b)
		fails(t, "Own of "+name, b, e, x.e)
		b, e = ops.Append(x.b, worst)
		fails(t, "Append to "+name, b, e, x.e)
		b, e = ops.Append(good, x.b)
		fails(t, "Append of "+name, b, e, x.e)
		b, e = ops.Merge(x.b, worst)
		fails(t, "Merge of "+name, b, e, x.e)
		b, e = ops.Merge(good, x.b)
		fails(t, "Merge with "+name, b, e, x.e)
		same, e := ops.Equal(x.b, worst)
		is(t, "Equal of "+name, e, x.e)
		is(t, "Equal of "+name, same, false)
		same, e = ops.Equal(good, x.b)
		is(t, "Equal with "+name, e, x.e)
		is(t, "Equal with "+name, same, false)
		same, e = ops.Equal(x.b, x.b)
		is(t, "Equal with itself of "+name, e, x.e)
		is(t, "Equal with itself of "+name, same, false)
		b, e = ops.Reals(x.b)
		fails(t, "Reals of "+name, b, e, x.e)
	}
}

func TestP26_1_AppendAndCut(t *testing.T) {
	b, e := ops.Append(other(), column.Encode(1))
	is(t, "Append", e, api.OK)
	list(t, "Append", b, column.Encode(5, 5, 7, 1))
	b, _ = ops.Append(columnOf(0), columnOf(0))
	list(t, "Append of nothings", b, columnOf(0))
	l := rising(3, 5, 2500)
	long := column.Encode(l...)
	for _, x := range [][2]int{{0, 2500}, {0, 0}, {2500, 2500}, {1, 2500}, {1000, 2100}, {1024, 2048}, {7, 8}} {
		b, e := ops.Cut(long, x[0], x[1])
		is(t, "Cut", e, api.OK)
		list(t, fmt.Sprint("Cut ", x), b, column.Encode(l[x[0]:x[1]]...))
	}
	for _, x := range [][2]int{{-1, 5}, {6, 5}, {0, 2501}, {2501, 2501}} {
		b, e := ops.Cut(long, x[0], x[1])
		fails(t, fmt.Sprint("Cut ", x), b, e, api.ErrRange)
	}
	b, e = ops.Cut(broken(long, 12), 1024, 1030)
	is(t, "Cut behind a broken frame", e, api.OK)
	list(t, "Cut behind a broken frame", b, column.Encode(l[1024:1030]...))
	b, e = ops.Cut(broken(long, 12), 1023, 1030)
	fails(t, "Cut of a broken frame", b, e, api.ErrSum)
	b, e = ops.Cut(long[:50], 9, 3)
	fails(t, "Cut of no column", b, e, api.ErrShort)
	apart(t, "Append", long, func(b []byte) []byte { b, _ = ops.Append(b, b); return b })
	apart(t, "Cut", long, func(b []byte) []byte { b, _ = ops.Cut(b, 5, 9); return b })
}

func TestP26_1_Merge(t *testing.T) {
	for _, x := range []struct {
		a, b, l []int64
		e       api.Errno
	}{
		{[]int64{1, 4}, []int64{2, 4}, []int64{1, 2, 4, 4}, api.OK},
		{nil, nil, nil, api.OK},
		{nil, []int64{3}, []int64{3}, api.OK},
		{[]int64{3, 3, 3}, nil, []int64{3, 3, 3}, api.OK},
		{[]int64{5, 6}, []int64{1, 2}, []int64{1, 2, 5, 6}, api.OK},
		{[]int64{minInt, maxInt}, []int64{-1, 0}, []int64{minInt, -1, 0, maxInt}, api.OK},
		{[]int64{2, 1}, []int64{1}, nil, api.ErrForm},
		{[]int64{1}, []int64{1, 5, 4}, nil, api.ErrForm},
		{[]int64{2, 1}, []int64{2, 1}, nil, api.ErrForm},
		{[]int64{0, minInt}, nil, nil, api.ErrForm},
		{rising(0, 2, 1500), rising(1, 2, 1500), rising(0, 1, 3000), api.OK},
	} {
		b, e := ops.Merge(column.Encode(x.a...), column.Encode(x.b...))
		fails(t, "Merge", b, e, x.e)
		if e == api.OK {
			list(t, "Merge", b, column.Encode(x.l...))
		}
	}
	b, e := ops.Merge(other(), other())
	is(t, "Merge", e, api.OK)
	list(t, "Merge", b, column.Encode(5, 5, 5, 5, 7, 7))
}

func TestP26_1_Equal(t *testing.T) {
	for _, x := range []struct {
		a, b []byte
		is   bool
	}{
		{other(), column.Encode(5, 5, 7), true}, {other(), other(), true}, {other(), column.Encode(5, 7, 5), false}, {other(), column.Encode(5, 5), false}, {column.Encode(5, 5, 7, 7), other(), false}, {columnOf(0), columnOf(0), true}, {columnOf(0), column.Encode(0), false}, {column.Encode(1), column.Encode(2), false},
	} {
		same, e := ops.Equal(x.a, x.b)
		is(t, "Equal", e, api.OK)
		is(t, "Equal", same, x.is)
	}
}

func TestP26_2_RanksAndReals(t *testing.T) {
	for _, l := range realRows() {
		reals := fcol.Encode(l...)
		ranks, e := ops.Ranks(reals)
		is(t, "Ranks", e, api.OK)
		list(t, "Ranks", ranks, column.Encode(real.Map(l, real.Rank)...))
		back, e := ops.Reals(ranks)
		is(t, "Reals", e, api.OK)
		list(t, "Reals", back, reals)
	}
	for _, x := range []struct {
		b []byte
		e api.Errno
	}{{nil, api.ErrShort}, {columnOf(0), api.ErrForm}, {append(realColumnOf(0), 1), api.ErrLong}, {realColumnOf(3), api.ErrCount}, {realColumnOf(1, slowFrame(1, []byte{18})), api.ErrTag}, {broken(fcol.Encode(1), 9), api.ErrSum}} {
		b, e := ops.Ranks(x.b)
		fails(t, "Ranks", b, e, x.e)
	}
	b, e := ops.Reals(realColumnOf(0))
	fails(t, "Reals of reals", b, e, api.ErrForm)
	b, e = ops.Reals(columnOf(1, slowFrame(1, []byte{8, 0, 0, 0, 0, 0, 0, 0, 0})))
	fails(t, "Reals of a form of reals", b, e, api.ErrTag)
	b, e = ops.Ranks(realColumnOf(2, slowFrame(2, []byte{17, 1, 0, 1, 30, 50})))
	is(t, "Ranks of any form", e, api.OK)
	list(t, "Ranks of any form", b, column.Encode(real.Rank(1.5), real.Rank(2.5)))
	apart(t, "Ranks", fcol.Encode(1, 2), func(b []byte) []byte { b, _ = ops.Ranks(b); return b })
	apart(t, "Reals", column.Encode(1, 2), func(b []byte) []byte { b, _ = ops.Reals(b); return b })
}

func TestP26_3_Join(t *testing.T) {
	less := func(x, y string) bool { return x[0] < y[0] }
	for _, x := range []struct{ a, b, l []string }{
		{nil, nil, nil}, {[]string{"b", "a"}, nil, []string{"b", "a"}}, {nil, []string{"b", "a"}, []string{"b", "a"}},
		{[]string{"a1", "c1"}, []string{"a2", "b2", "c2"}, []string{"a1", "a2", "b2", "c1", "c2"}},
		{[]string{"a2"}, []string{"a1"}, []string{"a2", "a1"}},
		{[]string{"c", "a"}, []string{"b", "d"}, []string{"b", "c", "a", "d"}},
	} {
		list(t, "Join", ops.Join(x.a, x.b, less), x.l)
	}
	never, always := func(x, y int) bool { return false }, func(x, y int) bool { return true }
	list(t, "Join", ops.Join([]int{9, 8}, []int{1, 2}, never), []int{9, 8, 1, 2})
	list(t, "Join", ops.Join([]int{9, 8}, []int{1, 2}, always), []int{1, 2, 9, 8})
	apart(t, "Join", []int64{1, 2}, func(l []int64) []int64 { return ops.Join(l, nil, func(x, y int64) bool { return x < y }) })
	apart(t, "Join", []int64{1, 2}, func(l []int64) []int64 { return ops.Join(nil, l, func(x, y int64) bool { return x < y }) })
	apart(t, "Join", []int64{1, 2}, func(l []int64) []int64 { return ops.Join(l, l, func(x, y int64) bool { return x < y }) })
}

func TestP26_4_WhatFollows(t *testing.T) {
	l := rows()
	for i, a := range l {
		b := l[(i+7)%len(l)]
		both, _ := ops.Append(column.Encode(a...), column.Encode(b...))
		list(t, "Append", both, column.Encode(slices.Concat(a, b)...))
		first, _ := ops.Cut(both, 0, len(a))
		second, _ := ops.Cut(both, len(a), len(a)+len(b))
		list(t, "Cut again", first, column.Encode(a...))
		list(t, "Cut again", second, column.Encode(b...))
		one, two := slices.Sorted(slices.Values(a)), slices.Sorted(slices.Values(b))
		merged, e := ops.Merge(column.Encode(one...), column.Encode(two...))
		is(t, "Merge", e, api.OK)
		list(t, "Merge", merged, column.Encode(slices.Sorted(slices.Values(slices.Concat(a, b)))...))
	}
	rise := inOrder()
	ranks, _ := ops.Ranks(fcol.Encode(rise...))
	numbers, _ := column.Decode(ranks)
	is(t, "ranks rise with the reals", slices.IsSorted(numbers), true)
}
