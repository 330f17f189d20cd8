package promises

import (
	"hash/crc32"
	"slices"
	"testing"

	"corduroy/crc"
	"corduroy/cursor"
)

// turnRun turns bits within a run of at most 32, from a bit on: the first one, and others as a pattern says.
func turnRun(b []byte, from int, pattern uint32) []byte {
	b = slices.Clone(b)
	for k := range 32 {
		at := from + k
		if (k == 0 || pattern>>k&1 == 1) && at/8 < len(b) {
			b[at/8] ^= 1 << (at % 8)
		}
	}
	return b
}

func TestP5_1_Sum(t *testing.T) {
	is(t, "Sum", crc.Sum([]byte("123456789")), 0xcbf43926)
	is(t, "Sum of no part", crc.Sum(), 0)
	is(t, "Sum of nothing", crc.Sum(nil, []byte{}, nil), 0)
	is(t, "Sum of a byte 0", crc.Sum([]byte{0}), 0xd202ef8d)
	is(t, "Sum of parts", crc.Sum([]byte("1234"), nil, []byte("5"), []byte("6789")), 0xcbf43926)
	for i := range 256 {
		is(t, "Sum of each byte", crc.Sum([]byte{byte(i)}), crc32.ChecksumIEEE([]byte{byte(i)}))
	}
	d := dice(7)
	for n := range 300 {
		b := d.bytes(n)
		k := d.below(n + 1)
		is(t, "Sum", crc.Sum(b), crc32.ChecksumIEEE(b))
		is(t, "Sum", crc.Sum(b[:k], b[k:]), crc32.ChecksumIEEE(b))
	}
}

func TestP5_1_Hash(t *testing.T) {
	h := crc.New()
	is(t, "Sum of nothing", h.Sum(), 0)
	h.Write()
	h.Write(nil)
	is(t, "Sum of nothing", h.Sum(), 0)
	h.Write([]byte("1234"), []byte("56"))
	is(t, "Sum", h.Sum(), crc32.ChecksumIEEE([]byte("123456")))
	is(t, "Sum again", h.Sum(), crc32.ChecksumIEEE([]byte("123456")))
	h.Write([]byte("7"))
	h.Write([]byte("8"), nil, []byte("9"))
	is(t, "Sum of more", h.Sum(), 0xcbf43926)
	is(t, "another one", crc.New().Sum(), 0)
	other := crc.New()
	other.Write([]byte("123456789"))
	is(t, "another one", other.Sum(), 0xcbf43926)
	is(t, "the first one", h.Sum(), 0xcbf43926)
}

func TestP5_1_HashKeepsNothing(t *testing.T) {
	h := crc.New()
	b := []byte("12345")
	h.Write(b)
	list(t, "is not changed", b, []byte("12345"))
	turn(b)
	h.Write([]byte("6789"))
	is(t, "Sum", h.Sum(), 0xcbf43926)
}

// The table and the function are two ways to one sum.
func TestP5_1_BothWays(t *testing.T) {
	one := func(b []byte) {
		h := crc.New()
		h.Write(b)
		want := crc32.ChecksumIEEE(b)
		is(t, "Sum", crc.Sum(b), want)
		is(t, "what is written", h.Sum(), want)
		list(t, "Put", crc.Put(b), cursor.Put32(b, want))
		is(t, "Fits", crc.Fits(cursor.Put32(b, want)), true)
		is(t, "Fits by another sum", crc.Fits(cursor.Put32(b, want+1)), false)
	}
	for i := range 256 {
		one([]byte{byte(i)})
		one([]byte{byte(i), 0, 0, 0, 0, byte(i)})
	}
	d := dice(9)
	for n := range 300 {
		one(d.bytes(n))
		h := crc.New()
		b := d.bytes(n)
		k := d.below(n + 1)
		h.Write(b[:k], nil)
		h.Write(b[k:])
		is(t, "what is written in parts", h.Sum(), crc.Sum(b))
	}
}

func TestP5_2_PutAndFits(t *testing.T) {
	list(t, "Put", crc.Put([]byte("123456789")), append([]byte("123456789"), 0x26, 0x39, 0xf4, 0xcb))
	list(t, "Put of nothing", crc.Put(nil), []byte{0, 0, 0, 0})
	is(t, "Fits", crc.Fits(append([]byte("123456789"), 0x26, 0x39, 0xf4, 0xcb)), true)
	is(t, "Fits the other way round", crc.Fits(append([]byte("123456789"), 0xcb, 0xf4, 0x39, 0x26)), false)
	is(t, "Fits", crc.Fits([]byte{0, 0, 0, 0}), true)
	is(t, "Fits", crc.Fits([]byte{0, 0, 0, 1}), false)
	for n := range 4 {
		is(t, "Fits of fewer than 4", crc.Fits(make([]byte, n)), false)
	}
	is(t, "Fits of 5 noughts", crc.Fits(make([]byte, 5)), false)
	apart(t, "Put", []byte{1, 2, 3}, crc.Put)
	b := crc.Put([]byte{1, 2, 3})
	kept := slices.Clone(b)
	crc.Fits(b)
	list(t, "Fits changes nothing", b, kept)
}

func TestP5_3_Damage(t *testing.T) {
	d := dice(8)
	for n := range 40 {
		b := d.bytes(n)
		whole := crc.Put(b)
		is(t, "Fits", crc.Fits(whole), true)
		list(t, "Put", whole, cursor.Put32(b, crc32.ChecksumIEEE(b)))
		for from := range 8 * len(whole) {
			for _, pattern := range []uint32{0, 1 << 31, 1<<32 - 1, uint32(d.next())} {
				if crc.Fits(turnRun(whole, from, pattern)) {
					t.Fatalf("damage is not told: %v from %d by %x", whole, from, pattern)
				}
			}
		}
	}
}
