package promises

import (
	"bytes"
	"fmt"
	"hash/crc32"
	"math"
	"slices"
	"testing"

	"corduroy/api"
	"corduroy/frame"
)

// slowFrame is the frame of any number and load, also of those that can't be.
func slowFrame(n int, load []byte) []byte {
	covered := append(slowFixed(uint64(n), 2), load...)
	return slices.Concat(slowFixed(uint64(len(load)), 4), covered, slowFixed(uint64(crc32.ChecksumIEEE(covered)), 4))
}

func TestP15_1_Wrap(t *testing.T) {
	for _, x := range []struct {
		n, load int
		e       api.Errno
	}{{1, 1, api.OK}, {1024, 8193, api.OK}, {1, 8193, api.OK}, {1024, 1, api.OK}, {0, 1, api.ErrCount}, {1025, 1, api.ErrCount}, {-1, 0, api.ErrCount}, {0, 8194, api.ErrCount}, {math.MaxInt, 1, api.ErrCount}, {1 + 1<<16, 1, api.ErrCount}, {1, 0, api.ErrRange}, {1, 8194, api.ErrRange}, {1024, 10000, api.ErrRange}} {
		load := bytes.Repeat([]byte{7}, x.load)
		b, e := frame.Wrap(x.n, load)
		fails(t, fmt.Sprint("Wrap ", x.n, " ", x.load), b, e, x.e)
		if e == api.OK {
			list(t, "Wrap", b, slowFrame(x.n, load))
		}
	}
	_, e := frame.Wrap(1, nil)
	is(t, "Wrap of nil", e, api.ErrRange)
	apart(t, "Wrap", []byte{1, 2, 3}, func(load []byte) []byte { b, _ := frame.Wrap(5, load); return b })
}

func TestP15_1_Make(t *testing.T) {
	b, e := frame.Make(5)
	is(t, "example 1", e, api.OK)
	list(t, "example 1", b, append([]byte{2, 0, 0, 0, 1, 0, 1, 10}, slowFixed(uint64(crc32.ChecksumIEEE([]byte{1, 0, 1, 10})), 4)...))
	for i, l := range blocks() {
		if i%9 > 0 {
			continue
		}
		b, e := frame.Make(l...)
		is(t, "Make", e, api.OK)
		list(t, "Make", b, slowFrame(len(l), slowOwn(l)))
	}
	for _, n := range []int{0, 1025, 4000} {
		b, e := frame.Make(make([]int64, n)...)
		fails(t, "Make of no block", b, e, api.ErrCount)
	}
	apart(t, "Make", []int64{1, 2}, func(l []int64) []byte { b, _ := frame.Make(l...); return b })
}

func TestP15_2_Length(t *testing.T) {
	for _, x := range []struct {
		b []byte
		n int
		e api.Errno
	}{
		{nil, 0, api.ErrShort}, {[]byte{1, 0, 0}, 0, api.ErrShort}, {[]byte{0, 0, 0}, 0, api.ErrShort}, {[]byte{255, 255, 255}, 0, api.ErrShort},
		{[]byte{0, 0, 0, 0}, 0, api.ErrRange}, {[]byte{1, 0, 0, 0}, 11, api.OK}, {[]byte{1, 0, 0, 0, 255}, 11, api.OK},
		{[]byte{1, 32, 0, 0}, 8203, api.OK}, {[]byte{2, 32, 0, 0}, 0, api.ErrRange}, {[]byte{1, 0, 1, 0}, 0, api.ErrRange}, {[]byte{1, 0, 0, 128}, 0, api.ErrRange}, {[]byte{255, 255, 255, 255}, 0, api.ErrRange},
	} {
		n, e := frame.Length(x.b)
		is(t, fmt.Sprint("Length of ", x.b), e, x.e)
		is(t, fmt.Sprint("Length of ", x.b), n, x.n)
	}
}

func TestP15_2_Unwrap(t *testing.T) {
	good := slowFrame(1, []byte{1, 10})
	bad := slices.Clone(good)
	bad[6]++
	worse := slowFrame(1025, []byte{1, 10})
	worse[11]++
	for _, x := range []struct {
		b    []byte
		n    int
		load []byte
		size int
		e    api.Errno
	}{
		{good, 1, []byte{1, 10}, 12, api.OK},
		{append(slices.Clone(good), 9, 9, 9), 1, []byte{1, 10}, 12, api.OK},
		{slowFrame(1024, []byte{255}), 1024, []byte{255}, 11, api.OK},
		{slowFrame(7, make([]byte, 8193)), 7, make([]byte, 8193), 8203, api.OK},
		{nil, 0, nil, 0, api.ErrShort},
		{good[:3], 0, nil, 0, api.ErrShort},
		{good[:4], 0, nil, 0, api.ErrShort},
		{good[:11], 0, nil, 0, api.ErrShort},
		{bad[:11], 0, nil, 0, api.ErrShort},
		{slowFrame(1, make([]byte, 8194)), 0, nil, 0, api.ErrRange},
		{slowFrame(1, nil), 0, nil, 0, api.ErrRange},
		{[]byte{255, 255, 255, 255, 0}, 0, nil, 0, api.ErrRange},
		{bad, 0, nil, 0, api.ErrSum},
		{worse, 0, nil, 0, api.ErrSum},
		{slowFrame(1025, []byte{1, 10}), 0, nil, 0, api.ErrCount},
		{slowFrame(0, []byte{1, 10}), 0, nil, 0, api.ErrCount},
		{slowFrame(65535, []byte{99}), 0, nil, 0, api.ErrCount},
	} {
		n, load, size, e := frame.Unwrap(x.b)
		what := fmt.Sprint("Unwrap of ", few(x.b))
		is(t, what, e, x.e)
		is(t, what, n, x.n)
		list(t, what, load, x.load)
		is(t, what, size, x.size)
	}
	apart(t, "Unwrap", good, func(b []byte) []byte { _, load, _, _ := frame.Unwrap(b); return load })
}

func TestP15_2_Parse(t *testing.T) {
	good := slowFrame(1, []byte{1, 10})
	bad := slices.Clone(good)
	bad[7]++
	for _, x := range []struct {
		b    []byte
		l    []int64
		size int
		e    api.Errno
	}{
		{good, []int64{5}, 12, api.OK},
		{append(slices.Clone(good), good...), []int64{5}, 12, api.OK},
		{slowFrame(1, []byte{0, 5, 0, 0, 0, 0, 0, 0, 0}), []int64{5}, 19, api.OK},
		{slowFrame(1, []byte{5, 10}), []int64{5}, 12, api.OK},
		{slowFrame(1, []byte{3, 9, 2, 10, 0}), []int64{5}, 15, api.OK},
		{nil, nil, 0, api.ErrShort},
		{good[:11], nil, 0, api.ErrShort},
		{[]byte{0, 0, 0, 0, 0}, nil, 0, api.ErrRange},
		{bad, nil, 0, api.ErrSum},
		{slowFrame(0, []byte{1, 10}), nil, 0, api.ErrCount},
		{slowFrame(1, []byte{6, 10}), nil, 0, api.ErrTag},
		{slowFrame(1, []byte{1, 10, 0}), nil, 0, api.ErrLong},
		{slowFrame(2, []byte{1, 10}), nil, 0, api.ErrShort},
		{slowFrame(1, []byte{1, 128, 0}), nil, 0, api.ErrOver},
		{slowFrame(1, []byte{3, 65}), nil, 0, api.ErrWidth},
	} {
		l, size, e := frame.Parse(x.b)
		fails(t, fmt.Sprint("Parse of ", x.b), l, e, x.e)
		list(t, fmt.Sprint("Parse of ", x.b), l, x.l)
		is(t, fmt.Sprint("Parse of ", x.b), size, x.size)
	}
	apart(t, "Parse", good, func(b []byte) []int64 { l, _, _ := frame.Parse(b); return l })
}

func TestP15_3_ThereAndBack(t *testing.T) {
	for _, l := range blocks() {
		b, _ := frame.Make(l...)
		size, e := frame.Length(b)
		is(t, "Length", e, api.OK)
		is(t, "Length", size, len(b))
		back, size, e := frame.Parse(b)
		is(t, "Parse", e, api.OK)
		is(t, "Parse", size, len(b))
		list(t, "Parse", back, l)
	}
}

func TestP15_3_Damage(t *testing.T) {
	d := dice(17)
	for range 60 {
		b, _ := frame.Make(near(&d, 1+d.below(20), 1+d.below(64))...)
		for from := 32; from < 8*len(b); from++ {
			damaged := turnRun(b, from, uint32(d.next()))
			if l, size, e := frame.Parse(damaged); e != api.ErrSum || l != nil || size != 0 {
				t.Fatalf("damage is not told: %v and %v: %d", b, damaged, e)
			}
			_, _, _, e := frame.Unwrap(damaged)
			is(t, "Unwrap", e, api.ErrSum)
		}
	}
}
