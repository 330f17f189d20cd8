package promises

import (
	"slices"
	"testing"

	"corduroy/api"
	"corduroy/codec"
	"corduroy/column"
	"corduroy/fcol"
	"corduroy/frame"
	"corduroy/ops"
	"corduroy/reader"
	"corduroy/real"
	"corduroy/seek"
	"corduroy/stat"
	"corduroy/writer"
	"corduroy/zone"
)

// TestP1_R6_TheSameAgain: what is answered does not hang on what was done with others.
func TestP1_R6_TheSameAgain(t *testing.T) {
	first := column.Encode(rising(1, 2, 1500)...)
	column.Decode(broken(first, 9))
	fcol.Encode(1, 2, 3)
	list(t, "Encode", column.Encode(rising(1, 2, 1500)...), first)
	one, two := writer.New(), writer.New()
	one.Write(1, 2, 3)
	is(t, "another writer", two.Len(), 0)
	r, s := reader.New(), reader.New()
	r.Feed([]byte("X"))
	is(t, "another reader", s.Close(), api.ErrShort)
	is(t, "another reader", r.Close(), api.ErrForm)
}

func TestP2_ThereAndBack(t *testing.T) {
	d := dice(32)
	for range 200 {
		l := signedOf(&d, d.below(50)*d.below(50), 1+d.below(64))
		back, e := column.Decode(column.Encode(l...))
		is(t, "Decode", e, api.OK)
		list(t, "Decode", back, l)
	}
}

func TestP3_TheShortest(t *testing.T) {
	for _, l := range rows() {
		b := column.Encode(l...)
		index, e := seek.Index(b)
		is(t, "Index", e, api.OK)
		for _, x := range index {
			_, load, _, _ := frame.Unwrap(b[x.At:])
			block := l[x.First : x.First+x.Count]
			for tag := range uint8(6) {
				form, e := codec.Encode(tag, block)
				if e != api.OK {
					continue
				}
				is(t, "none is shorter", len(load) <= len(form)+1, true)
				is(t, "none with a lesser tag is as short", len(load) == len(form)+1 && tag < load[0], false)
				if tag == load[0] {
					list(t, "the own form", load[1:], form)
				}
			}
			is(t, "at most 1 and 8 for each number", len(load) <= 1+8*len(block), true)
		}
	}
}

func TestP4_AllBytesAreAnswered(t *testing.T) {
	d := dice(33)
	long := column.Encode(near(&d, 1100, 5)...)
	for range 4000 {
		b := slices.Clone(long)
		for range 1 + d.below(3) {
			b[d.below(len(b))] = byte(d.next())
		}
		b = b[:len(b)-d.below(2)*d.below(len(b))]
		l, e := column.Decode(b)
		if e != api.OK {
			is(t, "no numbers beside an error", len(l), 0)
			continue
		}
		again, e := column.Decode(column.Encode(l...))
		is(t, "Decode", e, api.OK)
		list(t, "Decode", again, l)
	}
	// Frames whose sums fit, but whose loads are any bytes.
	for range 20000 {
		n := 1 + d.below(9)
		load := append([]byte{byte(d.below(7))}, d.bytes(d.below(24))...)
		for i := range load[1:] {
			load[1+i] &= byte(d.next())
		}
		l, e := column.Decode(columnOf(n, slowFrame(n, load)))
		is(t, "numbers, or an error", len(l) == n, e == api.OK)
	}
}

func TestP5_InPieces(t *testing.T) {
	d := dice(34)
	for _, l := range rows() {
		w, r := writer.New(), reader.New()
		var got []int64
		for rest := l; len(rest) > 0; {
			n := 1 + d.below(len(rest))
			b, _ := w.Write(rest[:n]...)
			rest = rest[n:]
			some, e := r.Feed(b)
			is(t, "Feed", e, api.OK)
			got = append(got, some...)
		}
		b, _ := w.Close()
		some, e := r.Feed(b)
		is(t, "Feed", e, api.OK)
		list(t, "all that was told", append(got, some...), l)
		is(t, "Close", r.Close(), api.OK)
	}
}

func TestP6_DamageIsTold(t *testing.T) {
	d := dice(35)
	for _, n := range []int{1, 5, 1030} {
		b := column.Encode(steps(&d, n, 10)...)
		reals := fcol.Encode(real.Map(steps(&d, n, 10), real.FromBits)...)
		for _, c := range [][]byte{b, reals} {
			for _, covered := range coveredBits(t, c) {
				for range 300 {
					from := covered[0] + d.below(covered[1]-covered[0])
					pattern := uint32(d.next())
					if over := from + 32 - covered[1]; over > 0 {
						pattern = pattern << over >> over
					}
					damaged := turnRun(c, from, pattern)
					l, e := column.Decode(damaged)
					is(t, "Decode of what is damaged", e == api.OK || l != nil, false)
					f, e := fcol.Decode(damaged)
					is(t, "Decode of what is damaged", e == api.OK || f != nil, false)
				}
			}
		}
	}
}

func TestP7_RealsKeepAllTheirBits(t *testing.T) {
	l := reals()
	b := fcol.Encode(l...)
	back, e := fcol.Decode(b)
	is(t, "Decode", e, api.OK)
	sameReals(t, "Decode", back, l)
	ranks, e := ops.Ranks(b)
	is(t, "Ranks", e, api.OK)
	zones, e := zone.Build(ranks)
	is(t, "Build", e, api.OK)
	for _, x := range [][2]float64{{-inf, inf}, {minus0, 0}, {0, 0}, {0.25, 1.5}, {-normal, normal}, {real.FromRank(minInt), real.FromRank(maxInt)}, {5, -5}} {
		want := 0
		for _, f := range l {
			if !real.Less(f, x[0]) && !real.Less(x[1], f) {
				want++
			}
		}
		n, _, e := zone.Count(ranks, zones, real.Rank(x[0]), real.Rank(x[1]))
		is(t, "Count", e, api.OK)
		is(t, "Count", n, want)
	}
	s, _ := fcol.Stats(b)
	told(t, "Stats", s, stat.Of(l...))
}

func TestP8_ColumnsAreRows(t *testing.T) {
	d := dice(36)
	for range 60 {
		a, b := signedOf(&d, d.below(1500), 20), signedOf(&d, d.below(1500), 20)
		slices.Sort(a)
		slices.Sort(b)
		both, _ := ops.Append(column.Encode(a...), column.Encode(b...))
		list(t, "Append", both, column.Encode(slices.Concat(a, b)...))
		from := d.below(len(a) + len(b) + 1)
		to := from + d.below(len(a)+len(b)-from+1)
		cut, _ := ops.Cut(both, from, to)
		list(t, "Cut", cut, column.Encode(slices.Concat(a, b)[from:to]...))
		merged, _ := ops.Merge(column.Encode(a...), column.Encode(b...))
		list(t, "Merge", merged, column.Encode(slices.Sorted(slices.Values(slices.Concat(a, b)))...))
	}
}

// TestTenExamples are the document's examples of the whole, but those that other tests have.
func TestTenExamples(t *testing.T) {
	is(t, "1", len(column.Encode()), 16)
	is(t, "2", len(column.Encode(5)), 28)
	l := rising(9, 9, 1500)
	b := column.Encode(l...)
	index, _ := seek.Index(b)
	is(t, "5", len(index), 2)
	is(t, "5", index[0].Count, 1024)
	is(t, "5", index[1].Count, 476)
	v, e := seek.Get(broken(b, 12), 1024)
	is(t, "5", e, api.OK)
	is(t, "5", v, l[1024])
	_, e = column.Decode(b[:len(b)-1])
	is(t, "6", e, api.ErrShort)
	r := reader.New()
	got, e := r.Feed(b[:len(b)-1])
	is(t, "6", e, api.OK)
	list(t, "6", got, l)
	is(t, "6", r.Close(), api.ErrShort)
	_, e = column.Decode(broken(b, 12))
	is(t, "7", e, api.ErrSum)
	_, e = column.Decode(columnOf(6, slowFrame(3, []byte{1, 2, 4, 6}), slowFrame(3, []byte{1, 2, 4, 6})))
	is(t, "8", e, api.ErrCount)
}
