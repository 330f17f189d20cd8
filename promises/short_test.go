package promises

import (
	"bytes"
	"testing"

	"corduroy/api"
	"corduroy/cursor"
	"corduroy/short"
)

func TestShortNext(t *testing.T) {
	c := cursor.New([]byte{172, 2, 0, 127, 128})
	is(t, "Next", short.Next(c), 300)
	is(t, "At", c.At(), 2)
	is(t, "Next", short.Next(c), 0)
	is(t, "Next", short.Next(c), 127)
	thrown(t, "Next of too few", func() { short.Next(c) }, api.ErrShort)
	for _, x := range []struct {
		b []byte
		e api.Errno
	}{{nil, api.ErrShort}, {[]byte{128, 0}, api.ErrOver}, {bytes.Repeat([]byte{128}, 9), api.ErrShort}, {bytes.Repeat([]byte{128}, 10), api.ErrOver}, {bytes.Repeat([]byte{255}, 30), api.ErrOver}} {
		thrown(t, "Next", func() { short.Next(cursor.New(x.b)) }, x.e)
	}
}

func TestShortZigs(t *testing.T) {
	list(t, "Zigs", short.Zigs([]int64{0, -1, 1, minInt}), []uint64{0, 1, 2, top})
	list(t, "Zags", short.Zags([]uint64{0, 1, 2, top}), []int64{0, -1, 1, minInt})
	apart(t, "Zigs", []int64{1, 2}, short.Zigs)
	apart(t, "Zags", []uint64{1, 2}, short.Zags)
}

func TestShortPlaces(t *testing.T) {
	for _, x := range []struct {
		b      []byte
		n      int
		places []int
		e      api.Errno
	}{
		{[]byte{0}, 0, nil, api.OK},
		{[]byte{3, 0, 0, 1}, 4, []int{0, 1, 3}, api.OK},
		{[]byte{3, 0, 0, 1}, 3, []int{0, 1}, api.ErrRange},
		{[]byte{3, 0, 0}, 3, []int{0, 1}, api.ErrShort},
		{[]byte{4, 0, 0}, 3, nil, api.ErrCount},
		{[]byte{128, 0}, 3, nil, api.ErrOver},
		{[]byte{1, 128, 0}, 3, nil, api.ErrOver},
	} {
		var places []int
		thrown(t, "Places", func() {
			for place := range short.Places(cursor.New(x.b), x.n) {
				places = append(places, place)
			}
		}, x.e)
		list(t, "Places", places, x.places)
	}
	c := cursor.New([]byte{2, 1, 9, 0, 8})
	for place := range short.Places(c, 3) {
		is(t, "the first place", place, 1)
		break
	}
	is(t, "Places stops", c.At(), 2)
}
