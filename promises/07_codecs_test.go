package promises

import (
	"fmt"
	"math"
	"slices"
	"testing"

	"corduroy/api"
	"corduroy/plain"
)

// blocks are blocks of many shapes and lengths.
func blocks() [][]int64 {
	d := dice(10)
	var out [][]int64
	for _, v := range edges() {
		out = append(out, []int64{int64(v)}, []int64{-int64(v), int64(v)})
	}
	for _, n := range []int{1, 2, 3, 7, 8, 9, 15, 16, 17, 31, 32, 33, 34, 60, 61, 119, 120, 121, 127, 128, 129, 130, 160, 161, 239, 240, 241, 257, 500, 1023, 1024} {
		out = append(out, shapes(&d, n)...)
	}
	return out
}

func shapes(d *dice, n int) [][]int64 {
	out := [][]int64{signedOf(d, n, 64), signedOf(d, n, 1+d.below(63)), signedOf(d, n, d.below(9))}
	for _, v := range []int64{0, -1, 1, 3, -7, minInt, maxInt, int64(d.next())} {
		out = append(out, slices.Repeat([]int64{v}, n))
	}
	return append(out, steps(d, n, 0), steps(d, n, 3), steps(d, n, 40), runs(d, n, 1), runs(d, n, 20), near(d, n, 4), near(d, n, 30), ones(d, n))
}

// steps are numbers that follow one another.
func steps(d *dice, n, wide int) []int64 {
	l := signedOf(d, n, wide)
	at := int64(d.next())
	for i := range l {
		at += l[i] + 1000
		l[i] = at
	}
	return l
}

// runs are numbers that stand often, and others between.
func runs(d *dice, n, wide int) []int64 {
	var l []int64
	for len(l) < n {
		l = append(l, slices.Repeat(signedOf(d, 1, wide), 1+d.below(30))...)
		l = append(l, signedOf(d, d.below(12), wide)...)
	}
	return l[:n]
}

// near are numbers near to one number, but for some.
func near(d *dice, n, wide int) []int64 {
	l := make([]int64, n)
	from := int64(d.next())
	for i := range l {
		l[i] = from + int64(d.next()>>(64-wide))
		if d.below(20) == 0 {
			l[i] += int64(d.next() >> d.below(64))
		}
	}
	return l
}

// ones are -1, whose zigzag is 1, with few others.
func ones(d *dice, n int) []int64 {
	l := slices.Repeat([]int64{-1}, n)
	for range d.below(4) {
		l[d.below(n)] = int64(d.below(5))
	}
	return l
}

func slowZig(v int64) uint64 {
	if v < 0 {
		return uint64(-(v+1))*2 + 1
	}
	return uint64(v) * 2
}

func slowShort(v uint64) []byte {
	var b []byte
	for ; v >= 128; v /= 128 {
		b = append(b, byte(v%128+128))
	}
	return append(b, byte(v))
}

func slowFixed(v uint64, size int) []byte {
	var b []byte
	for range size {
		b = append(b, byte(v%256))
		v /= 256
	}
	return b
}

func slowWidth(v uint64) int {
	n := 0
	for ; v > 0; v /= 2 {
		n++
	}
	return n
}

// laws tests what P7.1 and P7.4 say of each codec; form makes its form in a slow way.
func laws(t *testing.T, c plain.Codec, name string, takes func(l []int64) bool, form func(l []int64) []byte) {
	is(t, "Name", c.Name(), name)
	for _, l := range blocks() {
		kept := slices.Clone(l)
		what := fmt.Sprint(name, " of ", len(l), " numbers, ", few(l))
		is(t, what+": Takes", c.Takes(l), takes(l))
		b, e := c.Encode(l)
		list(t, what+": is not changed", l, kept)
		if !takes(l) {
			fails(t, what+": Encode", b, e, api.ErrCodec)
			is(t, what+": Wrong", plain.Wrong(c, l), api.ErrCodec)
			is(t, what+": Size", c.Size(l), 0)
			continue
		}
		is(t, what+": Encode", e, api.OK)
		is(t, what+": Wrong", plain.Wrong(c, l), api.OK)
		list(t, what+": Encode", b, form(l))
		is(t, what+": Size", c.Size(l), len(b))
		back, e := c.Decode(b, len(l))
		is(t, what+": Decode", e, api.OK)
		list(t, what+": Decode", back, l)
	}
	wrongCounts(t, c)
	cutForms(t, c, takes)
	apart(t, name+": Encode", []int64{1, -2, 3, -1, -1}, func(l []int64) []byte { b, _ := c.Encode(l); return b })
	for _, l := range [][]int64{{1, -2, 3, -1, -1}, slices.Repeat([]int64{-1}, 240), slices.Repeat([]int64{9}, 8)} {
		b, _ := c.Encode(l)
		apart(t, name+": Decode", b, func(b []byte) []int64 { l, _ := c.Decode(b, len(l)); return l })
	}
}

func wrongCounts(t *testing.T, c plain.Codec) {
	for _, n := range []int{0, 1025, 3000} {
		for _, v := range []int64{0, math.MaxInt64} {
			l := slices.Repeat([]int64{v}, n)
			is(t, "Takes of no block", c.Takes(l), false)
			is(t, "Size of no block", c.Size(l), 0)
			is(t, "Wrong of no block", plain.Wrong(c, l), api.ErrCount)
			b, e := c.Encode(l)
			fails(t, "Encode of no block", b, e, api.ErrCount)
		}
	}
	is(t, "Takes of nil", c.Takes(nil), false)
	is(t, "Wrong of nil", plain.Wrong(c, nil), api.ErrCount)
	for _, n := range []int{0, -1, 1025, math.MaxInt, math.MinInt} {
		for _, b := range [][]byte{nil, {0}, {255}, make([]byte, 8200)} {
			l, e := c.Decode(b, n)
			fails(t, fmt.Sprint("Decode to ", n), l, e, api.ErrCount)
		}
	}
}

// cutForms: forms without their last bytes, and with more bytes.
func cutForms(t *testing.T, c plain.Codec, takes func(l []int64) bool) {
	for i, l := range blocks() {
		if !takes(l) || i%7 != 0 {
			continue
		}
		b, _ := c.Encode(l)
		for k := 0; k < len(b); k += 1 + k/20 {
			got, e := c.Decode(b[:k], len(l))
			fails(t, fmt.Sprint("Decode of fewer bytes of ", few(l)), got, e, api.ErrShort)
		}
		for _, more := range []byte{0, 1, 255} {
			got, e := c.Decode(append(slices.Clone(b), more), len(l))
			fails(t, fmt.Sprint("Decode of more bytes of ", few(l)), got, e, api.ErrLong)
		}
	}
}

// decoded is a case of a Decode.
type decoded struct {
	b []byte
	n int
	l []int64
	e api.Errno
}

func decodes(t *testing.T, what string, by func(b []byte, n int) ([]int64, api.Errno), cases []decoded) {
	t.Helper()
	for _, x := range cases {
		l, e := by(x.b, x.n)
		fails(t, fmt.Sprint(what, " Decode of ", few(x.b), " to ", x.n), l, e, x.e)
		list(t, fmt.Sprint(what, " Decode of ", few(x.b), " to ", x.n), l, x.l)
	}
}

// ends tests R1 of a Decode: any bytes are answered, with just n numbers, or none.
func ends(t *testing.T, what string, by func(b []byte, n int) (int, api.Errno)) {
	d := dice(11)
	for range 20000 {
		b := d.bytes(d.below(40))
		for i := range b {
			if d.below(2) == 0 {
				b[i] = byte(d.below(20))
			}
		}
		n := 1 + d.below(12)
		if got, e := by(b, n); e == api.OK && got != n || e != api.OK && got != 0 {
			t.Fatalf("%s: Decode of %v to %d: %d numbers, error %d", what, b, n, got, e)
		}
	}
}
