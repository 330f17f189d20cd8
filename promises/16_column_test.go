package promises

import (
	"fmt"
	"hash/crc32"
	"math"
	"slices"
	"testing"

	"corduroy/api"
	"corduroy/column"
	"corduroy/frame"
	"corduroy/trap"
	"corduroy/whole"
)

const head = "CRD1"

func slowTail(n uint32) []byte {
	counted := slowFixed(uint64(n), 4)
	return slices.Concat(make([]byte, 4), counted, slowFixed(uint64(crc32.ChecksumIEEE(counted)), 4))
}

// columnOf is a column's bytes of these frames, with an end of n numbers.
func columnOf(n int, frames ...[]byte) []byte {
	return slices.Concat([]byte(head), slices.Concat(frames...), slowTail(uint32(n)))
}

func slowColumn(l []int64) []byte {
	var frames [][]byte
	for i := 0; i < len(l); i += 1024 {
		block := l[i:min(i+1024, len(l))]
		frames = append(frames, slowFrame(len(block), slowOwn(block)))
	}
	return columnOf(len(l), frames...)
}

// full is a frame of 1024 times one number.
func full(v int64) []byte {
	b, _ := frame.Make(slices.Repeat([]int64{v}, 1024)...)
	return b
}

// broken is bytes with one bit turned.
func broken(b []byte, at int) []byte {
	b = slices.Clone(b)
	b[at] ^= 4
	return b
}

// rows are rows of numbers of many lengths.
func rows() [][]int64 {
	d := dice(18)
	var out [][]int64
	for _, n := range []int{0, 1, 2, 3, 100, 1023, 1024, 1025, 1500, 2047, 2048, 2049, 3000, 4096} {
		out = append(out, signedOf(&d, n, 1+d.below(64)))
		if n > 0 {
			out = append(out, steps(&d, n, d.below(30)), runs(&d, n, 1+d.below(20)), near(&d, n, 1+d.below(20)))
		}
	}
	return append(out, []int64{minInt}, []int64{maxInt, minInt, 0, -1})
}

func TestP16_1_Bytes(t *testing.T) {
	list(t, "Head", column.Head(), []byte{67, 82, 68, 49})
	turn(column.Head())
	list(t, "Head", column.Head(), []byte{67, 82, 68, 49})
	for _, n := range []uint32{0, 1, 5, 1024, 1 << 24, 1<<32 - 1} {
		list(t, "Tail", column.Tail(n), slowTail(n))
	}
	list(t, "Encode of nothing", column.Encode(), slices.Concat([]byte{67, 82, 68, 49}, make([]byte, 8), []byte{28, 223, 68, 33}))
	list(t, "Encode of 5", column.Encode(5), slowColumn([]int64{5}))
	is(t, "Encode of 5", len(column.Encode(5)), 28)
	for i, l := range rows() {
		if i%3 == 0 {
			list(t, fmt.Sprint("Encode of ", len(l)), column.Encode(l...), slowColumn(l))
		}
	}
	apart(t, "Encode", signedOf(new(dice), 1500, 9), func(l []int64) []byte { return column.Encode(l...) })
}

func TestP16_2_Next(t *testing.T) {
	five := slowFrame(1, []byte{1, 10})
	for _, x := range []struct {
		b    []byte
		full bool
		n    int
		l    []int64
		size int
		over bool
		e    api.Errno
	}{
		{five, true, 0, []int64{5}, 12, false, api.OK},
		{five, true, -9, []int64{5}, 12, false, api.OK},
		{append(slices.Clone(five), 1, 2), true, 1024, []int64{5}, 12, false, api.OK},
		{slowTail(0), true, 0, nil, 12, true, api.OK},
		{slowTail(7), false, 7, nil, 12, true, api.OK},
		{append(slowTail(7), 1), false, 7, nil, 12, true, api.OK},
		{slowTail(1<<32 - 1), true, 1<<32 - 1, nil, 12, true, api.OK},
		{nil, true, 0, nil, 0, false, api.ErrShort},
		{nil, false, 0, nil, 0, false, api.ErrShort},
		{[]byte{0, 0, 0}, false, 0, nil, 0, false, api.ErrShort},
		{five[:3], false, 0, nil, 0, false, api.ErrShort},
		{slowTail(0)[:4], true, 0, nil, 0, false, api.ErrShort},
		{slowTail(0)[:11], true, 0, nil, 0, false, api.ErrShort},
		{slowTail(0)[:11], false, 5, nil, 0, false, api.ErrShort},
		{broken(slowTail(7), 4), true, 7, nil, 0, false, api.ErrSum},
		{broken(slowTail(7), 11), true, 7, nil, 0, false, api.ErrSum},
		{broken(slowTail(7), 11), true, 8, nil, 0, false, api.ErrSum},
		{slowTail(7), true, 8, nil, 0, false, api.ErrCount},
		{slowTail(7), true, -7, nil, 0, false, api.ErrCount},
		{slowTail(7), true, 7 + 1<<32, nil, 0, false, api.ErrCount},
		{slowTail(1<<32 - 1), true, -1, nil, 0, false, api.ErrCount},
		{slowTail(0), true, math.MinInt, nil, 0, false, api.ErrCount},
		{five, false, 0, nil, 0, false, api.ErrCount},
		{five[:4], false, 0, nil, 0, false, api.ErrCount},
		{[]byte{255, 255, 255, 255}, false, 0, nil, 0, false, api.ErrCount},
		{broken(five, 9), false, 0, nil, 0, false, api.ErrCount},
		{[]byte{255, 255, 255, 255}, true, 0, nil, 0, false, api.ErrRange},
		{[]byte{2, 32, 0, 0}, true, 0, nil, 0, false, api.ErrRange},
		{five[:11], true, 0, nil, 0, false, api.ErrShort},
		{five[:4], true, 0, nil, 0, false, api.ErrShort},
		{broken(five, 9), true, 0, nil, 0, false, api.ErrSum},
		{slowFrame(1025, []byte{1, 10}), true, 0, nil, 0, false, api.ErrCount},
		{slowFrame(1, []byte{9, 10}), true, 0, nil, 0, false, api.ErrTag},
		{slowFrame(1, []byte{1, 10, 0}), true, 0, nil, 0, false, api.ErrLong},
	} {
		l, size, over, e := column.Next(x.b, x.full, x.n)
		what := fmt.Sprint("Next of ", few(x.b), x.full, x.n)
		fails(t, what, l, e, x.e)
		list(t, what, l, x.l)
		is(t, what, size, x.size)
		is(t, what, over, x.over)
	}
	apart(t, "Next", five, func(b []byte) []int64 { l, _, _, _ := column.Next(b, true, 0); return l })
}

func TestP16_2_Whole(t *testing.T) {
	for _, x := range []struct {
		b []byte
		n int
		e api.Errno
	}{
		{nil, 0, api.ErrShort}, {[]byte{0, 0, 0}, 0, api.ErrShort}, {[]byte{255, 255, 255}, 0, api.ErrShort},
		{[]byte{0, 0, 0, 0}, 12, api.OK}, {[]byte{0, 0, 0, 0, 9}, 12, api.OK}, {[]byte{1, 0, 0, 0}, 11, api.OK}, {[]byte{1, 32, 0, 0}, 8203, api.OK}, {[]byte{2, 32, 0, 0}, 0, api.ErrRange}, {[]byte{0, 0, 0, 1}, 0, api.ErrRange},
	} {
		n, e := column.Whole(x.b)
		is(t, fmt.Sprint("Whole of ", x.b), e, x.e)
		is(t, fmt.Sprint("Whole of ", x.b), n, x.n)
	}
}

// wrongColumns are bytes that are no column's, and what is wrong.
func wrongColumns() map[string]struct {
	b []byte
	e api.Errno
} {
	five, good := slowFrame(1, []byte{1, 10}), column.Encode(rising(7, 3, 1500)...)
	type wrong = struct {
		b []byte
		e api.Errno
	}
	return map[string]wrong{
		"nothing":                      {nil, api.ErrShort},
		"some of the head":             {[]byte("CR"), api.ErrShort},
		"a head":                       {[]byte("CRD1"), api.ErrShort},
		"a wrong head that is short":   {[]byte("CX"), api.ErrForm},
		"a wrong head":                 {append([]byte("CRD2"), good[4:]...), api.ErrForm},
		"another column's head":        {append([]byte("CRF1"), good[4:]...), api.ErrForm},
		"a wrong first byte":           {append([]byte("cRD1"), good[4:]...), api.ErrForm},
		"an end that is short":         {columnOf(0)[:15], api.ErrShort},
		"no end":                       {slices.Concat([]byte(head), five), api.ErrShort},
		"all but the last one":         {good[:len(good)-1], api.ErrShort},
		"one more":                     {append(slices.Clone(good), 0), api.ErrLong},
		"one more behind nothing":      {append(columnOf(0), 7), api.ErrLong},
		"two columns":                  {slices.Concat(good, good), api.ErrLong},
		"an end of others":             {columnOf(2, five), api.ErrCount},
		"an end of none":               {columnOf(0, five), api.ErrCount},
		"an end of some":               {columnOf(1), api.ErrCount},
		"an end of others, and more":   {append(columnOf(2, five), 0), api.ErrCount},
		"a broken end":                 {broken(columnOf(1, five), 20), api.ErrSum},
		"a broken end's sum":           {broken(columnOf(1, five), 27), api.ErrSum},
		"a broken end of others":       {broken(columnOf(9, five), 27), api.ErrSum},
		"a frame behind a short one":   {columnOf(2, five, five), api.ErrCount},
		"a broken one behind a short":  {broken(columnOf(2, five, five), 27), api.ErrCount},
		"a short one behind full ones": {columnOf(2049, full(3), full(4), five, full(3)), api.ErrCount},
		"a broken frame":               {broken(columnOf(1, five), 10), api.ErrSum},
		"a broken second frame":        {broken(columnOf(1025, full(3), five), 4+len(full(3))+9), api.ErrSum},
		"two broken frames":            {broken(broken(columnOf(1025, full(3), five), 4+len(full(3))+9), 9), api.ErrSum},
		"a frame without a load":       {columnOf(1, slowFrame(1, nil)[4:]), api.ErrRange},
		"a frame of too great a load":  {columnOf(1, slowFrame(1, make([]byte, 8194))), api.ErrRange},
		"a frame of none":              {columnOf(0, slowFrame(0, []byte{1, 10})), api.ErrCount},
		"a frame of too many":          {columnOf(1025, slowFrame(1025, []byte{0, 10})), api.ErrCount},
		"a frame of no codec":          {columnOf(1, slowFrame(1, []byte{6, 10})), api.ErrTag},
		"a frame of a wrong form":      {columnOf(1, slowFrame(1, []byte{1, 128, 0})), api.ErrOver},
		"a load that is short":         {columnOf(2, slowFrame(2, []byte{1, 10})), api.ErrShort},
		"a load that is long":          {columnOf(2, slowFrame(2, []byte{1, 10, 10, 10})), api.ErrLong},
		"a frame that is cut":          {slices.Concat([]byte(head), five[:11]), api.ErrShort},
		"a frame's beginning":          {slices.Concat([]byte(head), five[:3]), api.ErrShort},
	}
}

func TestP16_3_DecodeWrong(t *testing.T) {
	for name, x := range wrongColumns() {
		l, e := column.Decode(x.b)
		fails(t, "Decode of "+name, l, e, x.e)
	}
}

func TestP16_3_Decode(t *testing.T) {
	five := slowFrame(1, []byte{1, 10})
	for _, x := range []struct {
		b []byte
		l []int64
	}{
		{columnOf(0), nil},
		{columnOf(1, five), []int64{5}},
		{columnOf(1, slowFrame(1, []byte{0, 5, 0, 0, 0, 0, 0, 0, 0})), []int64{5}},
		{columnOf(1024, full(3)), slices.Repeat([]int64{3}, 1024)},
		{columnOf(1025, full(3), five), append(slices.Repeat([]int64{3}, 1024), 5)},
		{columnOf(2048, full(3), full(-3)), append(slices.Repeat([]int64{3}, 1024), slices.Repeat([]int64{-3}, 1024)...)},
	} {
		l, e := column.Decode(x.b)
		is(t, "Decode", e, api.OK)
		list(t, "Decode", l, x.l)
	}
	apart(t, "Decode", columnOf(1025, full(3), five), func(b []byte) []int64 { l, _ := column.Decode(b); return l })
}

// TestP16_3_OtherForms: blocks of any codec are decoded.
func TestP16_3_OtherForms(t *testing.T) {
	d := dice(19)
	for range 20 {
		var frames [][]byte
		l := signedOf(&d, d.below(2500), 50)
		for block := range slices.Chunk(l, 1024) {
			tag := d.below(6)
			form := slowForms(block)[tag]
			frames = append(frames, slowFrame(len(block), append([]byte{byte(tag)}, form...)))
		}
		back, e := column.Decode(columnOf(len(l), frames...))
		is(t, "Decode", e, api.OK)
		list(t, "Decode", back, l)
	}
}

func TestP16_4_ThereAndBack(t *testing.T) {
	for _, l := range rows() {
		back, e := column.Decode(column.Encode(l...))
		is(t, "Decode", e, api.OK)
		list(t, "Decode", back, l)
	}
}

func TestP16_4_Damage(t *testing.T) {
	d := dice(20)
	for _, n := range []int{0, 1, 30, 1024, 1060} {
		b := column.Encode(steps(&d, n, 3)...)
		for _, covered := range coveredBits(t, b) {
			for from := covered[0]; from < covered[1]; from++ {
				pattern := uint32(d.next())
				if over := from + 32 - covered[1]; over > 0 {
					pattern = pattern << over >> over
				}
				l, e := column.Decode(turnRun(b, from, pattern))
				if e == api.OK || l != nil {
					t.Fatalf("damage is not told: of %d numbers from bit %d", n, from)
				}
			}
		}
	}
}

// coveredBits are where of a column the bits begin and end that a frame's, or the end's, sum covers, and it.
func coveredBits(t *testing.T, b []byte) [][2]int {
	var out [][2]int
	for at := 4; at < len(b); {
		size, e := column.Whole(b[at:])
		is(t, "Whole", e, api.OK)
		out = append(out, [2]int{8 * (at + 4), 8 * (at + size)})
		at += size
	}
	return out
}

func TestWholeHead(t *testing.T) {
	for _, x := range []struct {
		b string
		e api.Errno
	}{{"", api.ErrShort}, {"a", api.ErrShort}, {"b", api.ErrForm}, {"ac", api.ErrForm}, {"ab", api.OK}, {"abc", api.OK}, {"cb", api.ErrForm}} {
		is(t, "Head of "+x.b, whole.Head([]byte(x.b), []byte("ab")), x.e)
	}
}

func TestWholeRead(t *testing.T) {
	next := func(b []byte, full bool, n int) ([]string, int, bool, api.Errno) {
		if len(b) == 0 {
			return nil, 0, false, api.ErrShort
		}
		if b[0] == '.' {
			return nil, 1, true, api.OK
		}
		return slices.Repeat([]string{fmt.Sprint(full, n)}, int(b[0]-'0')), 1, false, api.OK
	}
	l, e := whole.Read([]byte("#21."), []byte("#"), next)
	is(t, "Read", e, api.OK)
	list(t, "Read", l, []string{"true 0", "true 0", "false 2"})
	_, e = whole.Read([]byte("#21.."), []byte("#"), next)
	is(t, "Read", e, api.ErrLong)
	_, e = whole.Read([]byte("#21"), []byte("#"), next)
	is(t, "Read", e, api.ErrShort)
	is(t, "Read throws nothing", trap.Try(func() { whole.Read(nil, []byte("#"), next) }), api.OK)
}
