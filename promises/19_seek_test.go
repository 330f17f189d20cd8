package promises

import (
	"fmt"
	"math"
	"slices"
	"testing"

	"corduroy/api"
	"corduroy/column"
	"corduroy/seek"
)

func entry(at, size, count, first int) seek.Entry {
	return seek.Entry{At: at, Size: size, Count: count, First: first}
}

func TestP19_1_Index(t *testing.T) {
	three := slowFrame(3, []byte{1, 2, 4, 6})
	first := len(full(9))
	index, e := seek.Index(columnOf(1027, full(9), three))
	is(t, "Index", e, api.OK)
	list(t, "Index", index, []seek.Entry{entry(4, first, 1024, 0), entry(4+first, 14, 3, 1024)})
	index, e = seek.Index(columnOf(0))
	fails(t, "Index of nothing", index, e, api.OK)
	for _, l := range rows() {
		var want []seek.Entry
		at := 4
		for i := 0; i < len(l); i += 1024 {
			size := 10 + len(slowOwnFast(l[i:min(i+1024, len(l))]))
			want = append(want, entry(at, size, min(1024, len(l)-i), i))
			at += size
		}
		index, e := seek.Index(column.Encode(l...))
		is(t, "Index", e, api.OK)
		list(t, "Index", index, want)
	}
	b := columnOf(1027, full(9), three)
	kept := slices.Clone(b)
	first1, _ := seek.Index(b)
	list(t, "is not changed", b, kept)
	second, _ := seek.Index(b)
	second[0] = seek.Entry{}
	is(t, "another answer", first1[0], entry(4, first, 1024, 0))
}

// slowOwnFast is a block's own form by way of the column's bytes: that these are right is tested elsewhere.
func slowOwnFast(l []int64) []byte {
	b := column.Encode(l...)
	return b[10 : len(b)-16]
}

func TestP19_1_IndexWrong(t *testing.T) {
	five := slowFrame(1, []byte{1, 10})
	cut := append(slowFixed(20, 4), slowFixed(1025, 2)...)
	for _, x := range []struct {
		what string
		b    []byte
		n    int
		e    api.Errno
	}{
		{"nothing", nil, 0, api.ErrShort},
		{"some of the head", []byte("CR"), 0, api.ErrShort},
		{"a wrong head that is short", []byte("CX"), 0, api.ErrForm},
		{"a wrong head", []byte("CRF1"), 0, api.ErrForm},
		{"a head", []byte(head), 0, api.ErrShort},
		{"3 bytes behind the head", append([]byte(head), 0, 0, 0), 0, api.ErrShort},
		{"an end that is short", columnOf(0)[:15], 0, api.ErrShort},
		{"a broken end", broken(columnOf(0), 15), 0, api.ErrSum},
		{"a broken end of others", broken(columnOf(3, five), 24), 0, api.ErrSum},
		{"a broken end, and more", append(broken(columnOf(0), 15), 1), 0, api.ErrSum},
		{"an end of others", columnOf(3, five), 0, api.ErrCount},
		{"an end of others, and more", append(columnOf(3, five), 1), 0, api.ErrCount},
		{"more", append(columnOf(1, five), 0), 0, api.ErrLong},
		{"a frame behind a short one", columnOf(2, five, five), 0, api.ErrCount},
		{"a length that can't be behind a short one", columnOf(2, five, []byte{255, 255, 255, 255}), 0, api.ErrCount},
		{"no end behind a short one", slices.Concat([]byte(head), five), 0, api.ErrShort},
		{"a length that can't be", columnOf(2, full(3), []byte{255, 255, 255, 255}), 0, api.ErrRange},
		{"a load that is too great", slices.Concat([]byte(head), []byte{2, 32, 0, 0}), 0, api.ErrRange},
		{"a frame that is cut", slices.Concat([]byte(head), five[:11]), 0, api.ErrShort},
		{"a frame of too many that is cut", slices.Concat([]byte(head), cut, make([]byte, 10)), 0, api.ErrShort},
		{"a frame's length alone", slices.Clip(slices.Concat([]byte(head), []byte{2, 0, 0, 0})), 0, api.ErrShort},
		{"a frame's length and a byte", slices.Clip(slices.Concat([]byte(head), []byte{2, 0, 0, 0, 1})), 0, api.ErrShort},
		{"a frame of none", columnOf(0, slowFrame(0, []byte{1, 10})), 0, api.ErrCount},
		{"a frame of too many", columnOf(1025, slowFrame(1025, []byte{1, 10})), 0, api.ErrCount},
		{"a frame of too many, and nothing behind it", slices.Concat([]byte(head), slowFrame(1025, []byte{1, 10})), 0, api.ErrCount},
		{"a broken load", broken(columnOf(1, five), 11), 1, api.OK},
		{"a broken sum", broken(columnOf(1, five), 13), 1, api.OK},
		{"no codec", columnOf(1, slowFrame(1, []byte{77})), 1, api.OK},
	} {
		index, e := seek.Index(x.b)
		fails(t, "Index of "+x.what, index, e, x.e)
		is(t, "Index of "+x.what, len(index), x.n)
		if e != api.OK {
			wrongIndex(t, x.what, x.b, e)
		}
	}
}

// wrongIndex: without an index all else tells its error.
func wrongIndex(t *testing.T, what string, b []byte, want api.Errno) {
	n, e := seek.Len(b)
	is(t, "Len of "+what, e, want)
	is(t, "Len of "+what, n, 0)
	for _, i := range []int{0, -1, 1 << 40} {
		v, e := seek.Get(b, i)
		is(t, "Get of "+what, e, want)
		is(t, "Get of "+what, v, 0)
		l, e := seek.Slice(b, i, 0)
		fails(t, "Slice of "+what, l, e, want)
	}
	for range seek.Walk(b) {
		t.Error("Walk of " + what)
	}
}

func TestP19_2_Get(t *testing.T) {
	three := slowFrame(3, []byte{1, 2, 4, 6})
	first := len(full(9))
	good := columnOf(1027, full(9), three)
	for _, x := range []struct {
		what string
		b    []byte
		i    int
		v    int64
		e    api.Errno
	}{
		{"good", good, 0, 9, api.OK},
		{"good", good, 1023, 9, api.OK},
		{"good", good, 1024, 1, api.OK},
		{"good", good, 1026, 3, api.OK},
		{"good", good, 1027, 0, api.ErrRange},
		{"good", good, -1, 0, api.ErrRange},
		{"good", good, math.MaxInt, 0, api.ErrRange},
		{"good", good, math.MinInt, 0, api.ErrRange},
		{"nothing", columnOf(0), 0, 0, api.ErrRange},
		{"the first frame broken", broken(good, 11), 1023, 0, api.ErrSum},
		{"the first frame broken", broken(good, 11), 1024, 1, api.OK},
		{"the first frame broken", broken(good, 11), 1027, 0, api.ErrRange},
		{"the second frame broken", broken(good, first+11), 1023, 9, api.OK},
		{"the second frame broken", broken(good, first+11), 1024, 0, api.ErrSum},
		{"the second frame of no codec", columnOf(1025, full(9), slowFrame(1, []byte{77})), 1024, 0, api.ErrTag},
		{"the second frame of no codec", columnOf(1025, full(9), slowFrame(1, []byte{77})), 1000, 9, api.OK},
	} {
		v, e := seek.Get(x.b, x.i)
		is(t, fmt.Sprint("Get of ", x.what, " ", x.i), e, x.e)
		is(t, fmt.Sprint("Get of ", x.what, " ", x.i), v, x.v)
	}
	n, e := seek.Len(broken(good, 11))
	is(t, "Len", e, api.OK)
	is(t, "Len", n, 1027)
	n, e = seek.Len(columnOf(0))
	is(t, "Len", e, api.OK)
	is(t, "Len", n, 0)
}

func TestP19_2_Slice(t *testing.T) {
	l := rising(-100, 7, 2500)
	good := column.Encode(l...)
	index, _ := seek.Index(good)
	second := broken(good, index[1].At+8)
	both := broken(slices.Concat(good[:index[0].At], slowFrame(1024, []byte{77}), good[index[1].At:]), 4+11+8)
	for _, x := range []struct {
		what     string
		b        []byte
		from, to int
		e        api.Errno
	}{
		{"good", good, 0, 2500, api.OK},
		{"good", good, 0, 0, api.OK},
		{"good", good, 2500, 2500, api.OK},
		{"good", good, 1024, 1024, api.OK},
		{"good", good, 1023, 1025, api.OK},
		{"good", good, 1024, 2048, api.OK},
		{"good", good, 2047, 2049, api.OK},
		{"good", good, 5, 6, api.OK},
		{"good", good, -1, 5, api.ErrRange},
		{"good", good, 6, 5, api.ErrRange},
		{"good", good, 0, 2501, api.ErrRange},
		{"good", good, 2501, 2501, api.ErrRange},
		{"good", good, math.MinInt, math.MaxInt, api.ErrRange},
		{"good", good, 3, -3, api.ErrRange},
		{"the second frame broken", second, 0, 1024, api.OK},
		{"the second frame broken", second, 2048, 2500, api.OK},
		{"the second frame broken", second, 1030, 1030, api.OK},
		{"the second frame broken", second, 1024, 1024, api.OK},
		{"the second frame broken", second, 0, 1025, api.ErrSum},
		{"the second frame broken", second, 2047, 2500, api.ErrSum},
		{"the second frame broken", second, 0, 2501, api.ErrRange},
		{"both frames wrong", both, 0, 2500, api.ErrTag},
		{"both frames wrong", both, 1024, 2500, api.ErrSum},
		{"both frames wrong", both, 2048, 2500, api.OK},
	} {
		what := fmt.Sprint("Slice of ", x.what, " ", x.from, " ", x.to)
		got, e := seek.Slice(x.b, x.from, x.to)
		fails(t, what, got, e, x.e)
		if x.e == api.OK {
			list(t, what, got, l[x.from:x.to])
		}
	}
	apart(t, "Slice", good, func(b []byte) []int64 { l, _ := seek.Slice(b, 1000, 1100); return l })
}

func TestP19_3_Walk(t *testing.T) {
	l := rising(-100, 7, 2500)
	good := column.Encode(l...)
	index, _ := seek.Index(good)
	for _, x := range []struct {
		what string
		b    []byte
		n    int
	}{{"good", good, 2500}, {"nothing", columnOf(0), 0}, {"the first frame broken", broken(good, 8+4), 0}, {"the second frame broken", broken(good, index[1].At+8), 1024}, {"the last frame broken", broken(good, index[2].At+8), 2048}, {"cut", good[:len(good)-1], 0}} {
		walk := seek.Walk(x.b)
		for range 2 {
			var got []int64
			for i, v := range walk {
				is(t, "Walk's place", i, len(got))
				got = append(got, v)
			}
			list(t, "Walk of "+x.what, got, l[:x.n])
		}
	}
	many := 0
	for i := range seek.Walk(good) {
		many++
		if i == 1030 {
			break
		}
	}
	is(t, "Walk, till one stops", many, 1031)
	b := slices.Clone(good)
	walk := seek.Walk(b)
	turn(b)
	many = 0
	for range walk {
		many++
	}
	is(t, "Walk keeps nothing of what was handed in", many, 2500)
}

func TestP19_4_EachPlace(t *testing.T) {
	for _, l := range rows() {
		b := column.Encode(l...)
		n, e := seek.Len(b)
		is(t, "Len", e, api.OK)
		is(t, "Len", n, len(l))
		for i := 0; i < len(l); i += 1 + len(l)/30 {
			v, e := seek.Get(b, i)
			is(t, "Get", e, api.OK)
			is(t, "Get", v, l[i])
			some, e := seek.Slice(b, i, len(l))
			is(t, "Slice", e, api.OK)
			list(t, "Slice", some, l[i:])
		}
		for _, i := range []int{-1, len(l), len(l) + 1} {
			v, e := seek.Get(b, i)
			is(t, "Get of no place", e, api.ErrRange)
			is(t, "Get of no place", v, 0)
		}
		i := 0
		for at, v := range seek.Walk(b) {
			is(t, "Walk", at, i)
			is(t, "Walk", v, l[i])
			i++
		}
		is(t, "Walk", i, len(l))
	}
}
