package promises

import (
	"bytes"
	"testing"

	"corduroy/api"
	"corduroy/zvar"
)

func slowZvar(l []int64) []byte {
	var b []byte
	for _, v := range l {
		b = append(b, slowShort(slowZig(v))...)
	}
	return b
}

func TestP8_1_Zvar(t *testing.T) {
	laws(t, zvar.Zvar{}, "zvar", anyBlock, slowZvar)
	b, e := zvar.Zvar{}.Encode([]int64{0, -1, 64})
	is(t, "example 1", e, api.OK)
	list(t, "example 1", b, []byte{0, 1, 128, 1})
	ends(t, "zvar", counted(zvar.Zvar{}))
}

func TestP8_2_Decode(t *testing.T) {
	nine := bytes.Repeat([]byte{255}, 9)
	decodes(t, "zvar", zvar.Zvar{}.Decode, []decoded{
		{[]byte{0, 1, 128, 1}, 3, []int64{0, -1, 64}, api.OK},
		{append(bytes.Clone(nine), 1), 1, []int64{minInt}, api.OK},
		{append(bytes.Clone(nine), 1, 2), 2, []int64{minInt, 1}, api.OK},
		{nil, 1, nil, api.ErrShort},
		{[]byte{0, 1, 128}, 3, nil, api.ErrShort},
		{[]byte{0, 1}, 3, nil, api.ErrShort},
		{nine, 1, nil, api.ErrShort},
		{[]byte{128, 0}, 1, nil, api.ErrOver},
		{[]byte{0, 128, 0}, 2, nil, api.ErrOver},
		{[]byte{128, 0}, 2, nil, api.ErrOver},
		{append(bytes.Clone(nine), 2), 1, nil, api.ErrOver},
		{append(bytes.Clone(nine), 255), 1, nil, api.ErrOver},
		{append(bytes.Clone(nine), 255, 0), 1, nil, api.ErrOver},
		{append(bytes.Clone(nine), 255, 255, 255), 1, nil, api.ErrOver},
		{[]byte{0, 0}, 1, nil, api.ErrLong},
		{[]byte{0, 128}, 1, nil, api.ErrLong},
		{[]byte{0, 128, 0}, 1, nil, api.ErrLong},
		{make([]byte, 1024), 1024, make([]int64, 1024), api.OK},
	})
}

func TestP8_3_OfNoOtherBlock(t *testing.T) {
	forms(t, zvar.Zvar{})
}
