package promises

import (
	"fmt"
	"slices"
	"testing"

	"corduroy/api"
	"corduroy/column"
	"corduroy/frame"
	"corduroy/writer"
)

func wrote(t *testing.T, w *writer.Writer, l ...int64) []byte {
	t.Helper()
	b, e := w.Write(l...)
	is(t, "Write", e, api.OK)
	return b
}

func ended(t *testing.T, w *writer.Writer) []byte {
	t.Helper()
	b, e := w.Close()
	is(t, "Close", e, api.OK)
	return b
}

func TestP17_1_Write(t *testing.T) {
	w := writer.New()
	list(t, "the first Write", wrote(t, w), []byte(head))
	list(t, "Write of nothing", wrote(t, w), nil)
	list(t, "Close", ended(t, w), slowTail(0))

	w = writer.New()
	list(t, "Close alone", ended(t, w), columnOf(0))

	w = writer.New()
	list(t, "Write of 3", wrote(t, w, 1, 2, 3), []byte(head))
	list(t, "Write of 1020 more", wrote(t, w, slices.Repeat([]int64{3}, 1020)...), nil)
	block := append([]int64{1, 2}, slices.Repeat([]int64{3}, 1021)...)
	made, _ := frame.Make(append(block, 9)...)
	list(t, "Write of the 1024th", wrote(t, w, 9), made)
	list(t, "Write of no more", wrote(t, w), nil)
	list(t, "Close on a full frame", ended(t, w), slowTail(1024))

	w = writer.New()
	l := rising(7, 3, 2500)
	first, _ := frame.Make(l[:1024]...)
	second, _ := frame.Make(l[1024:2048]...)
	third, _ := frame.Make(l[2048:]...)
	list(t, "Write of 2500", wrote(t, w, l...), slices.Concat([]byte(head), first, second))
	list(t, "Close", ended(t, w), slices.Concat(third, slowTail(2500)))
}

func TestP17_1_Closed(t *testing.T) {
	w := writer.New()
	wrote(t, w, 5)
	ended(t, w)
	for range 2 {
		b, e := w.Write(1, 2)
		fails(t, "Write behind Close", b, e, api.ErrClosed)
		b, e = w.Write()
		fails(t, "Write of nothing behind Close", b, e, api.ErrClosed)
		b, e = w.Close()
		fails(t, "Close behind Close", b, e, api.ErrClosed)
		is(t, "Len", w.Len(), 1)
		is(t, "Kept", w.Kept(), 0)
	}
}

func TestP17_2_LenAndKept(t *testing.T) {
	w := writer.New()
	is(t, "Len", w.Len(), 0)
	is(t, "Kept", w.Kept(), 0)
	for _, x := range [][3]int{{0, 0, 0}, {3, 3, 3}, {1020, 1023, 1023}, {1, 1024, 0}, {0, 1024, 0}, {1030, 2054, 6}, {3000, 5054, 958}} {
		wrote(t, w, make([]int64, x[0])...)
		is(t, "Len", w.Len(), x[1])
		is(t, "Kept", w.Kept(), x[2])
	}
	ended(t, w)
	is(t, "Len behind Close", w.Len(), 5054)
	is(t, "Kept behind Close", w.Kept(), 0)
}

func TestP17_2_KeepsNothingOfOthers(t *testing.T) {
	w := writer.New()
	l := append(make([]int64, 0, 50), 1, 2, 3)
	b := wrote(t, w, l...)
	turn(l)
	turn(b)
	list(t, "Close", ended(t, w), slowColumn([]int64{1, 2, 3})[4:])
	apart(t, "Write", rising(1, 1, 1500), func(l []int64) []byte { return wrote(t, writer.New(), l...) })
}

func TestP17_3_OwnBytes(t *testing.T) {
	d := dice(21)
	for _, l := range rows() {
		for _, most := range []int{1, 40, 1024, 3000} {
			w := writer.New()
			var b []byte
			for rest := l; len(rest) > 0; {
				n := min(len(rest), 1+d.below(most))
				b = append(b, wrote(t, w, rest[:n]...)...)
				rest = rest[n:]
			}
			b = append(b, ended(t, w)...)
			list(t, fmt.Sprint("all bytes of ", len(l), " by ", most), b, column.Encode(l...))
		}
	}
}
