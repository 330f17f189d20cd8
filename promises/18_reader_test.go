package promises

import (
	"fmt"
	"slices"
	"testing"

	"corduroy/api"
	"corduroy/column"
	"corduroy/reader"
)

// reads is what a reader that is fed by parts tells.
func reads(t *testing.T, b []byte, part func() int) ([]int64, api.Errno, *reader.Reader) {
	t.Helper()
	r := reader.New()
	var l []int64
	for rest := b; len(rest) > 0; {
		n := min(len(rest), part())
		some, e := r.Feed(rest[:n])
		l = append(l, some...)
		rest = rest[n:]
		is(t, "Len", r.Len(), len(l))
		if e != api.OK {
			for range 2 {
				again, e2 := r.Feed(rest)
				is(t, "the error again", e2, e)
				list(t, "nothing behind an error", again, nil)
				is(t, "Close", r.Close(), e)
				is(t, "Over", r.Over(), false)
				is(t, "Kept", r.Kept(), 0)
				is(t, "Len", r.Len(), len(l))
			}
			return l, e, r
		}
	}
	return l, api.OK, r
}

func TestP18_1_Example(t *testing.T) {
	b := columnOf(1027, full(9), slowFrame(3, []byte{1, 2, 4, 6}))
	r := reader.New()
	is(t, "Close ahead of all", r.Close(), api.ErrShort)
	l, e := r.Feed(b[:len(b)-1])
	is(t, "Feed", e, api.OK)
	list(t, "Feed", l, append(slices.Repeat([]int64{9}, 1024), 1, 2, 3))
	is(t, "Close", r.Close(), api.ErrShort)
	is(t, "Close again", r.Close(), api.ErrShort)
	is(t, "Over", r.Over(), false)
	is(t, "Kept", r.Kept(), 11)
	l, e = r.Feed(b[len(b)-1:])
	fails(t, "Feed of the last byte", l, e, api.OK)
	is(t, "Close", r.Close(), api.OK)
	is(t, "Over", r.Over(), true)
	is(t, "Len", r.Len(), 1027)
	is(t, "Kept", r.Kept(), 0)
	l, e = r.Feed(nil)
	fails(t, "Feed of nothing behind the end", l, e, api.OK)
	is(t, "Over", r.Over(), true)
	l, e = r.Feed([]byte{0})
	fails(t, "Feed of more behind the end", l, e, api.ErrLong)
	is(t, "Over", r.Over(), false)
	is(t, "Close", r.Close(), api.ErrLong)
	is(t, "Kept", r.Kept(), 0)
	l, e = r.Feed(nil)
	fails(t, "Feed behind an error", l, e, api.ErrLong)
}

// TestP18_1_WhenTold: an error is told as soon as Decode of what came would tell it, but for bytes that lack.
func TestP18_1_WhenTold(t *testing.T) {
	five := slowFrame(1, []byte{1, 10})
	for _, x := range []struct {
		what string
		b    []byte
		at   int
		e    api.Errno
	}{
		{"a wrong head", []byte("XRD1"), 1, api.ErrForm},
		{"a wrong head", []byte("CRF1"), 3, api.ErrForm},
		{"a frame behind a short one", slices.Concat([]byte(head), five, five), 20, api.ErrCount},
		{"a length that can't be, behind a short one", slices.Concat([]byte(head), five, []byte{255, 255, 255, 255}), 20, api.ErrCount},
		{"a length that can't be", slices.Concat([]byte(head), []byte{255, 255, 255, 255}), 8, api.ErrRange},
		{"a broken frame", slices.Concat([]byte(head), broken(five, 8), five), 16, api.ErrSum},
		{"a load that is short", slices.Concat([]byte(head), slowFrame(2, []byte{1, 10}), five), 16, api.ErrShort},
		{"an end of others", columnOf(7), 16, api.ErrCount},
		{"a broken end", broken(columnOf(0), 15), 16, api.ErrSum},
		{"bytes behind the end", append(columnOf(0), 0), 17, api.ErrLong},
	} {
		for from := range x.at {
			r := reader.New()
			_, e := r.Feed(x.b[:from])
			is(t, x.what+": not yet", e, api.OK)
			is(t, x.what+": Close", r.Close() == api.OK, x.what == "bytes behind the end" && from == 16)
			_, e = r.Feed(x.b[from : x.at-1])
			is(t, x.what+": not yet", e, api.OK)
			_, e = r.Feed(x.b[x.at-1 : x.at])
			is(t, x.what, e, x.e)
			is(t, x.what+": Close", r.Close(), x.e)
		}
	}
}

// lacking are those of the wrong columns of which only bytes lack.
var lacking = []string{"nothing", "some of the head", "a head", "an end that is short", "no end", "all but the last one", "a frame that is cut", "a frame's beginning"}

func TestP18_1_Wrong(t *testing.T) {
	d := dice(22)
	for name, x := range wrongColumns() {
		want, closed := x.e, x.e
		if slices.Contains(lacking, name) {
			want, closed = api.OK, api.ErrShort
		}
		first, _, _ := reads(t, x.b, func() int { return 1 })
		for _, most := range []int{1, 3, 50, 1 << 20} {
			l, e, r := reads(t, x.b, func() int { return 1 + d.below(most) })
			is(t, "Feed of "+name, e, want)
			is(t, "Close of "+name, r.Close(), closed)
			list(t, "numbers of "+name, l, first)
			is(t, "Over of "+name, r.Over(), false)
		}
	}
	l, e, _ := reads(t, wrongColumns()["a broken second frame"].b, func() int { return 1 << 20 })
	is(t, "a broken second frame", e, api.ErrSum)
	list(t, "the numbers of the frame ahead", l, slices.Repeat([]int64{3}, 1024))
}

func TestP18_2_Kept(t *testing.T) {
	b := columnOf(1025, full(9), slowFrame(1, []byte{1, 10}))
	bounds := []int{4, 4 + len(full(9)), len(b) - 12, len(b)}
	r := reader.New()
	is(t, "Kept", r.Kept(), 0)
	is(t, "Len", r.Len(), 0)
	from := 0
	for i := range b {
		_, e := r.Feed(b[i : i+1])
		is(t, "Feed", e, api.OK)
		if slices.Contains(bounds, i+1) {
			from = i + 1
		}
		is(t, fmt.Sprint("Kept of ", i+1), r.Kept(), i+1-from)
		is(t, "Over", r.Over(), i == len(b)-1)
	}
}

func TestP18_2_KeepsNothingOfOthers(t *testing.T) {
	b := columnOf(1, slowFrame(1, []byte{1, 10}))
	r := reader.New()
	some := slices.Clone(b[:10])
	r.Feed(some)
	list(t, "is not changed", some, b[:10])
	turn(some)
	l, e := r.Feed(b[10:])
	is(t, "Feed", e, api.OK)
	list(t, "Feed", l, []int64{5})
	apart(t, "Feed", b, func(b []byte) []int64 { l, _ := reader.New().Feed(b); return l })
}

func TestP18_3_Parted(t *testing.T) {
	d := dice(23)
	for _, l := range rows() {
		b := column.Encode(l...)
		for _, most := range []int{1, 30, 2000, 1 << 20} {
			got, e, r := reads(t, b, func() int { return 1 + d.below(most) })
			is(t, "Feed", e, api.OK)
			list(t, "Feed", got, l)
			is(t, "Close", r.Close(), api.OK)
			is(t, "Over", r.Over(), true)
			is(t, "Len", r.Len(), len(l))
			is(t, "Kept", r.Kept(), 0)
		}
	}
}

// TestP18_3_AsDecode: of damaged bytes a reader tells the error that Decode tells, but that bytes lack.
func TestP18_3_AsDecode(t *testing.T) {
	d := dice(24)
	b := column.Encode(steps(&d, 1050, 3)...)
	for range 3000 {
		damaged := turnRun(b, d.below(8*len(b)-40), uint32(d.next()&d.next()))
		damaged = damaged[:len(b)-d.below(3)*d.below(100)]
		_, want := column.Decode(damaged)
		one, first, r1 := reads(t, damaged, func() int { return len(damaged) })
		other, second, r2 := reads(t, damaged, func() int { return 1 + d.below(300) })
		is(t, "the same error", first, second)
		list(t, "the same numbers", one, other)
		is(t, "the same Close", r1.Close(), r2.Close())
		is(t, "as Decode", r1.Close(), want)
	}
}
