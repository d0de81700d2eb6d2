package boxes

import (
	"math/bits"

	"warden/highfirst"
)

const maxNumber = 8 // bytes

// Integer has the kinds whose every number fits into a box: the greatest ones of 64 bits without a sign would need nine bytes.
type Integer interface {
	~int | ~int8 | ~int16 | ~int32 | ~int64 | ~uint8 | ~uint16 | ~uint32
}

// AppendNumber puts the box of v behind out.
func AppendNumber[T Integer](out []byte, v T) []byte {
	size := numberSize(v)
	return highfirst.Append(append(out, Number, byte(size)), v, size)
}

// AppendNumbers puts the boxes of some numbers behind out.
func AppendNumbers[T Integer](out []byte, numbers ...T) []byte {
	for _, v := range numbers {
		out = AppendNumber(out, v)
	}
	return out
}

// ReadNumber reads what is in a box of the tag Number. It is not ok, if that has more bytes than needed, or T cannot hold it.
func ReadNumber[T Integer](in []byte) (v T, ok bool) {
	if len(in) < 1 || len(in) > maxNumber {
		return 0, false
	}
	// The first byte tells the sign.
	wide := highfirst.Join(int64(int8(in[0])), in[1:])
	v = T(wide)
	if int64(v) != wide || numberSize(v) != len(in) {
		return 0, false
	}
	return v, true
}

func numberSize[T Integer](v T) int {
	wide := int64(v)
	// A number below 0 needs as many bits as its complement; one more bit is for the sign.
	needed := bits.Len64(uint64(wide^wide>>63)) + 1
	return (needed + 7) / 8
}
