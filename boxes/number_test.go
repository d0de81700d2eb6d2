package boxes

import (
	"bytes"
	"math"
	"testing"
)

type age int16

// wantNumber holds what is written of v against want, and reads it back.
func wantNumber[T Integer](t *testing.T, v T, want ...byte) {
	t.Helper()
	head := []byte("ahead")
	written := AppendNumber(head, v)
	box := append([]byte{Number, byte(len(want))}, want...)
	if !bytes.Equal(written, append(bytes.Clone(head), box...)) {
		t.Errorf("AppendNumber of %T %d = %v, want %v", v, v, written[len(head):], box)
	}
	if read, ok := ReadNumber[T](want); read != v || !ok {
		t.Errorf("ReadNumber of %T %v = %d, %v, want %d", v, want, read, ok, v)
	}
}

func TestNumbersOfAllKinds(t *testing.T) {
	wantNumber[int8](t, math.MinInt8, 128)
	wantNumber[int8](t, math.MaxInt8, 127)
	wantNumber[int8](t, -1, 255)
	wantNumber[uint8](t, 0, 0)
	wantNumber[uint8](t, 127, 127)
	wantNumber[uint8](t, 128, 0, 128)
	wantNumber[uint8](t, math.MaxUint8, 0, 255)
	wantNumber[int16](t, math.MinInt16, 128, 0)
	wantNumber[int16](t, -129, 255, 127)
	wantNumber[int16](t, math.MaxInt16, 127, 255)
	wantNumber[uint16](t, math.MaxUint16, 0, 255, 255)
	wantNumber[int32](t, math.MinInt32, 128, 0, 0, 0)
	wantNumber[uint32](t, math.MaxUint32, 0, 255, 255, 255, 255)
	wantNumber[age](t, -2, 254)
	wantNumber[age](t, 300, 1, 44)
	wantNumber[int](t, 65536, 1, 0, 0)
	wantNumber[int64](t, 1<<55-1, 127, 255, 255, 255, 255, 255, 255)
	wantNumber[int64](t, 1<<55, 0, 128, 0, 0, 0, 0, 0, 0)
	wantNumber[int64](t, math.MaxInt64, 127, 255, 255, 255, 255, 255, 255, 255)
	wantNumber[int64](t, math.MinInt64, 128, 0, 0, 0, 0, 0, 0, 0)
}

func wantUnread[T Integer](t *testing.T, in ...byte) {
	t.Helper()
	if read, ok := ReadNumber[T](in); read != 0 || ok {
		t.Errorf("ReadNumber of %T %v = %d, %v", read, in, read, ok)
	}
}

func TestNumbersThatAKindCannotHold(t *testing.T) {
	wantUnread[int8](t, 0, 128)
	wantUnread[int8](t, 255, 127)
	wantUnread[uint8](t, 255)
	wantUnread[uint8](t, 1, 0)
	wantUnread[uint8](t, 1, 200)
	wantUnread[uint8](t, 128, 200)
	wantUnread[uint16](t, 128)
	wantUnread[int32](t, 0, 128, 0, 0, 0)
	wantUnread[uint32](t, 1, 0, 0, 0, 0)
	wantUnread[uint32](t, 128, 0, 0, 0, 0, 0, 0, 0)
}

func TestNumbersOfWrongBytes(t *testing.T) {
	wantUnread[int64](t)
	wantUnread[int64](t, 0, 0)
	wantUnread[int64](t, 0, 127)
	wantUnread[int64](t, 255, 128)
	wantUnread[int64](t, 255, 255, 255, 255, 255, 255, 255, 255)
	wantUnread[int64](t, 0, 0, 0, 0, 0, 0, 0, 0)
	wantUnread[int64](t, 0, 128, 0, 0, 0, 0, 0, 0, 0)
	wantUnread[int64](t, 1, 0, 0, 0, 0, 0, 0, 0, 0)
	wantUnread[uint8](t, 0, 5)
}
