package highfirst

import (
	"bytes"
	"math"
	"testing"
)

func TestAppend(t *testing.T) {
	for _, c := range []struct {
		got, want []byte
	}{
		{Append([]byte{9}, uint64(0x0102030405060708), 8), []byte{9, 1, 2, 3, 4, 5, 6, 7, 8}},
		{Append(nil, uint64(math.MaxUint64-1), 8), []byte{255, 255, 255, 255, 255, 255, 255, 254}},
		{Append(nil, 0x010203, 2), []byte{2, 3}},
		{Append(nil, int8(-2), 1), []byte{254}},
		{Append(nil, int8(-2), 2), []byte{255, 254}},
		{Append(nil, uint8(200), 2), []byte{0, 200}},
		{Append([]byte{9}, 5, 0), []byte{9}},
	} {
		if !bytes.Equal(c.got, c.want) {
			t.Errorf("Append = %v, want %v", c.got, c.want)
		}
	}
}

func TestJoin(t *testing.T) {
	if v := Join(uint64(0), []byte{255, 2, 3, 4, 5, 6, 7, 8}); v != 0xFF02030405060708 {
		t.Errorf("Join of eight bytes = %#x", v)
	}
	if v := Join(int64(-1), []byte{127}); v != -129 {
		t.Errorf("Join behind -1 = %d", v)
	}
	if v := Join(uint8(7), []byte{1, 2}); v != 2 {
		t.Errorf("Join into one byte = %d", v)
	}
	if v := Join(5, nil); v != 5 {
		t.Errorf("Join of nothing = %d", v)
	}
}
