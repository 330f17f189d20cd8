package promises

import (
	"fmt"
	"math"
	"slices"
	"testing"

	"corduroy/api"
	"corduroy/column"
	"corduroy/seek"
	"corduroy/zone"
)

func zoneOf(count int, low, high, sum int64) zone.Zone {
	return zone.Zone{Count: count, Min: low, Max: high, Sum: sum}
}

// slowZones are the zones of numbers that are parted into blocks.
func slowZones(l []int64) []zone.Zone {
	var zones []zone.Zone
	for block := range slices.Chunk(l, 1024) {
		sum := int64(0)
		for _, v := range block {
			sum += v
		}
		zones = append(zones, zoneOf(len(block), slices.Min(block), slices.Max(block), sum))
	}
	return zones
}

func TestP25_1_Of(t *testing.T) {
	for _, x := range []struct {
		l []int64
		z zone.Zone
	}{
		{[]int64{5, -1}, zoneOf(2, -1, 5, 4)}, {[]int64{7}, zoneOf(1, 7, 7, 7)}, {[]int64{-7}, zoneOf(1, -7, -7, -7)}, {[]int64{0}, zoneOf(1, 0, 0, 0)},
		{[]int64{maxInt, 1}, zoneOf(2, 1, maxInt, minInt)}, {[]int64{minInt, minInt}, zoneOf(2, minInt, minInt, 0)}, {[]int64{3, 9, 4}, zoneOf(3, 3, 9, 16)}, {[]int64{-3, -9, -4}, zoneOf(3, -9, -3, -16)},
		{make([]int64, 3000), zoneOf(3000, 0, 0, 0)},
	} {
		z, ok := zone.Of(x.l...)
		is(t, fmt.Sprint("Of ", few(x.l)), ok, true)
		is(t, fmt.Sprint("Of ", few(x.l)), z, x.z)
	}
	z, ok := zone.Of()
	is(t, "Of none", ok, false)
	is(t, "Of none", z, zone.Zone{})
	d := dice(30)
	for range 200 {
		l := signedOf(&d, 2+d.below(50), 1+d.below(64))
		k := 1 + d.below(len(l)-1)
		all, _ := zone.Of(l...)
		first, _ := zone.Of(l[:k]...)
		second, _ := zone.Of(l[k:]...)
		is(t, "Of", all, slowZones(l)[0])
		is(t, "Join", first.Join(second), all)
		is(t, "Join", second.Join(first), all)
	}
}

func TestP25_1_Build(t *testing.T) {
	for _, l := range rows() {
		zones, e := zone.Build(column.Encode(l...))
		is(t, "Build", e, api.OK)
		list(t, "Build", zones, slowZones(l))
	}
	three := slowFrame(3, []byte{1, 2, 4, 6})
	for _, x := range []struct {
		what string
		b    []byte
		e    api.Errno
	}{
		{"nothing", nil, api.ErrShort}, {"a wrong head", []byte("CRF1"), api.ErrForm}, {"another end", columnOf(4, three), api.ErrCount}, {"one more", append(columnOf(3, three), 1), api.ErrLong},
		{"a broken end", broken(columnOf(3, three), 4+14+9), api.ErrSum},
		{"a broken frame, and another end", broken(columnOf(4, three), 12), api.ErrCount},
		{"a broken frame", broken(columnOf(3, three), 12), api.ErrSum},
		{"no codec, and a broken frame", broken(columnOf(1027, slowFrame(1024, []byte{77}), three), 4+11+9), api.ErrTag},
		{"a broken second frame", broken(columnOf(1027, full(3), three), 4+len(full(3))+9), api.ErrSum},
	} {
		zones, e := zone.Build(x.b)
		fails(t, "Build of "+x.what, zones, e, x.e)
	}
}

func slowStore(l []zone.Zone) []byte {
	b := slowFixed(uint64(len(l)), 4)
	for _, z := range l {
		b = slices.Concat(b, slowFixed(uint64(z.Count), 2), slowFixed(uint64(z.Min), 8), slowFixed(uint64(z.Max), 8), slowFixed(uint64(z.Sum), 8))
	}
	return b
}

// unlike are zones that may not be.
var unlike = []zone.Zone{
	{}, zoneOf(0, 1, 2, 3), zoneOf(-1, 1, 2, 3), zoneOf(1025, 1, 2, 3), zoneOf(2+1<<16, 1, 2, 3), zoneOf(math.MinInt, 0, 0, 0), zoneOf(2, 2, 1, 3), zoneOf(1024, maxInt, minInt, 0),
	zoneOf(1, 1, 2, 1), zoneOf(1, 1, 2, 2), zoneOf(1, 2, 2, 1), zoneOf(1, 1, 1, 0), zoneOf(1, 5, 4, 5),
}

func TestP25_2_Store(t *testing.T) {
	for _, l := range [][]zone.Zone{nil, {zoneOf(1, 5, 5, 5)}, {zoneOf(2, -1, 5, 4), zoneOf(1024, minInt, maxInt, -77), zoneOf(2, 3, 3, 99)}} {
		b, e := zone.Store(l...)
		is(t, "Store", e, api.OK)
		list(t, "Store", b, slowStore(l))
		back, e := zone.Load(b)
		is(t, "Load", e, api.OK)
		list(t, "Load", back, l)
		for k := range b {
			got, e := zone.Load(b[:k])
			fails(t, "Load of fewer", got, e, api.ErrShort)
		}
		got, e := zone.Load(append(slices.Clone(b), 0))
		fails(t, "Load of more", got, e, api.ErrLong)
	}
	for _, z := range unlike {
		b, e := zone.Store(z)
		fails(t, fmt.Sprint("Store of ", z), b, e, api.ErrRange)
		b, e = zone.Store(zoneOf(1, 5, 5, 5), z)
		fails(t, fmt.Sprint("Store of ", z), b, e, api.ErrRange)
	}
	l := []zone.Zone{zoneOf(1, 5, 5, 5)}
	zone.Store(l...)
	is(t, "is not changed", l[0], zoneOf(1, 5, 5, 5))
}

func TestP25_2_Load(t *testing.T) {
	good := zoneOf(2, -1, 5, 4)
	for _, z := range unlike {
		if z.Count < 0 || z.Count > 1<<16 {
			continue
		}
		l, e := zone.Load(slowStore([]zone.Zone{z}))
		fails(t, fmt.Sprint("Load of ", z), l, e, api.ErrRange)
		l, e = zone.Load(slowStore([]zone.Zone{good, z}))
		fails(t, fmt.Sprint("Load of ", z), l, e, api.ErrRange)
		l, e = zone.Load(append(slowStore([]zone.Zone{z}), 1))
		fails(t, fmt.Sprint("Load of ", z, " and more"), l, e, api.ErrRange)
		l, e = zone.Load(slowStore([]zone.Zone{z, good})[:40])
		fails(t, fmt.Sprint("Load of ", z, " and one that is cut"), l, e, api.ErrRange)
		l, e = zone.Load(slowStore([]zone.Zone{good, z})[:50])
		fails(t, fmt.Sprint("Load of ", z, " that is cut"), l, e, api.ErrShort)
	}
	for _, x := range []struct {
		b []byte
		e api.Errno
	}{{nil, api.ErrShort}, {[]byte{0, 0, 0}, api.ErrShort}, {[]byte{0, 0, 0, 0}, api.OK}, {[]byte{1, 0, 0, 0}, api.ErrShort}, {[]byte{255, 255, 255, 255}, api.ErrShort}, {[]byte{0, 0, 0, 0, 0}, api.ErrLong}} {
		l, e := zone.Load(x.b)
		fails(t, fmt.Sprint("Load of ", x.b), l, e, x.e)
		is(t, "Load", len(l), 0)
	}
}

func TestP25_3_Count(t *testing.T) {
	l := slices.Concat(rising(0, 1, 1024), rising(5000, 2, 1024), rising(-50, 1, 100))
	b := column.Encode(l...)
	index, _ := seek.Index(b)
	zones := slowZones(l)
	first, second := broken(b, 12), broken(b, index[1].At+8)
	all := []zone.Zone{zoneOf(1024, minInt, maxInt, 0), zoneOf(1024, minInt, maxInt, 0), zoneOf(100, minInt, maxInt, 0)}
	odd := []zone.Zone{zoneOf(1024, 5, -5, 0), zoneOf(1024, 9, 9, 0), zoneOf(100, 1, 0, 0)}
	for _, x := range []struct {
		what      string
		b         []byte
		zones     []zone.Zone
		low, high int64
		n, frames int
		e         api.Errno
	}{
		{"all", b, zones, minInt, maxInt, 2148, 0, api.OK},
		{"the first frame", b, zones, 0, 1023, 1024 + 50, 1, api.OK},
		{"just within", b, zones, 0, 1022, 1023 + 50, 2, api.OK},
		{"just apart", b, zones, 7047, 8000, 0, 0, api.OK},
		{"the greatest", b, zones, 7046, 8000, 1, 1, api.OK},
		{"the least", b, zones, -100, -50, 1, 1, api.OK},
		{"below the least", b, zones, minInt, -51, 0, 0, api.OK},
		{"between", b, zones, 1024, 4999, 0, 0, api.OK},
		{"one that is not there", b, zones, 5001, 5001, 0, 1, api.OK},
		{"low above high", b, zones, 5, 4, 0, 0, api.OK},
		{"low above high", b, zones, maxInt, minInt, 0, 0, api.OK},
		{"low above high, of a broken frame", first, zones, 5, 4, 0, 0, api.OK},
		{"a broken frame that is not read", first, zones, 5000, 6000, 501, 1, api.OK},
		{"a broken frame that is within", first, zones, 0, 4000, 1024 + 50, 1, api.OK},
		{"a broken frame that is read", first, zones, 1, 5000, 0, 0, api.ErrSum},
		{"a broken second frame that is read", second, zones, 1, 5000, 0, 0, api.ErrSum},
		{"zones that tell less", b, all, 0, 5, 6 + 6, 3, api.OK},
		{"zones that are odd", b, odd, 0, 5, 100, 0, api.OK},
		{"zones that are odd", b, odd, -9, 9, 2148, 0, api.OK},
		{"fewer zones", b, zones[:2], 0, 5, 0, 0, api.ErrCount},
		{"no zones", b, nil, 5, 0, 0, 0, api.ErrCount},
		{"more zones", b, append(slices.Clone(zones), zones[0]), 0, 5, 0, 0, api.ErrCount},
		{"another count", b, []zone.Zone{zones[0], zones[1], zoneOf(99, -50, 49, 0)}, 9, 5, 0, 0, api.ErrCount},
		{"another count", first, []zone.Zone{zones[0], zones[1], zoneOf(101, -50, 49, 0)}, 1, 5, 0, 0, api.ErrCount},
		{"no column", nil, nil, 0, 5, 0, 0, api.ErrShort},
		{"no column, low above high", []byte("X"), nil, 5, 0, 0, 0, api.ErrForm},
		{"no column, and other zones", b[:len(b)-1], nil, 5, 0, 0, 0, api.ErrShort},
		{"the column of nothing", columnOf(0), nil, 0, 5, 0, 0, api.OK},
		{"the column of nothing, and a zone", columnOf(0), zones[:1], 0, 5, 0, 0, api.ErrCount},
	} {
		n, frames, e := zone.Count(x.b, x.zones, x.low, x.high)
		is(t, "Count of "+x.what, e, x.e)
		is(t, "Count of "+x.what, n, x.n)
		is(t, "frames that were read, of "+x.what, frames, x.frames)
	}
}

func TestP25_4_Find(t *testing.T) {
	l := slices.Concat(rising(0, 1, 1024), rising(500, 2, 1024), rising(-50, 1, 100))
	b := column.Encode(l...)
	index, _ := seek.Index(b)
	zones := slowZones(l)
	first, second := broken(b, 12), broken(b, index[1].At+8)
	for _, x := range []struct {
		what  string
		b     []byte
		zones []zone.Zone
		v     int64
		at    int
		is    bool
		e     api.Errno
	}{
		{"the first", b, zones, 0, 0, true, api.OK},
		{"one of the first frame", b, zones, 600, 600, true, api.OK},
		{"the last of the first frame", b, zones, 1023, 1023, true, api.OK},
		{"one of the second frame", b, zones, 1024, 1024 + 262, true, api.OK},
		{"the greatest", b, zones, 2546, 2047, true, api.OK},
		{"the least", b, zones, -50, 2048, true, api.OK},
		{"none above", b, zones, 2547, 0, false, api.OK},
		{"none below", b, zones, -51, 0, false, api.OK},
		{"none between", b, zones, 1025, 0, false, api.OK},
		{"one ahead of a broken frame", second, zones, 600, 600, true, api.OK},
		{"one behind a broken frame that is apart", first, zones, -1, 2048 + 49, true, api.OK},
		{"one of a broken frame", first, zones, 600, 0, false, api.ErrSum},
		{"one behind a broken frame", first, zones, 1000, 0, false, api.ErrSum},
		{"none, behind a broken frame", second, zones, 1025, 0, false, api.ErrSum},
		{"zones that lie", b, []zone.Zone{zoneOf(1024, -9, -8, 0), zones[1], zones[2]}, 600, 1024 + 50, true, api.OK},
		{"zones that are odd", b, []zone.Zone{zoneOf(1024, 9, -9, 0), zones[1], zones[2]}, 0, 2048 + 50, true, api.OK},
		{"fewer zones", b, zones[:2], 0, 0, false, api.ErrCount},
		{"another count", b, []zone.Zone{zones[0], zones[1], zoneOf(99, -50, 49, 0)}, 0, 0, false, api.ErrCount},
		{"no column", b[:20], zones, 0, 0, false, api.ErrShort},
		{"the column of nothing", columnOf(0), nil, 0, 0, false, api.OK},
	} {
		at, ok, e := zone.Find(x.b, x.zones, x.v)
		is(t, "Find of "+x.what, e, x.e)
		is(t, "Find of "+x.what, at, x.at)
		is(t, "Find of "+x.what, ok, x.is)
	}
	twice := column.Encode(7, 5, 5, 7)
	at, ok, _ := zone.Find(twice, slowZones([]int64{7, 5, 5, 7}), 5)
	is(t, "Find of the first of two", at, 1)
	is(t, "Find of the first of two", ok, true)
}

func TestP25_5_AsReadingAll(t *testing.T) {
	d := dice(31)
	for _, l := range rows() {
		b := column.Encode(l...)
		zones, _ := zone.Build(b)
		stored, _ := zone.Store(zones...)
		zones, e := zone.Load(stored)
		is(t, "Load", e, api.OK)
		kept := slices.Clone(zones)
		for range 10 {
			low, high := int64(d.next()), int64(d.next())
			if len(l) > 0 {
				low, high = l[d.below(len(l))]+int64(d.below(3))-1, l[d.below(len(l))]+int64(d.below(3))-1
			}
			want := 0
			for _, v := range l {
				if v >= low && v <= high {
					want++
				}
			}
			n, frames, e := zone.Count(b, zones, low, high)
			is(t, "Count", e, api.OK)
			is(t, "Count", n, want)
			is(t, "frames that were read", frames <= len(zones), true)
			at, ok, e := zone.Find(b, zones, low)
			is(t, "Find", e, api.OK)
			is(t, "Find", ok, slices.Contains(l, low))
			is(t, "Find", at, max(0, slices.Index(l, low)))
		}
		list(t, "zones are not changed", zones, kept)
	}
}
