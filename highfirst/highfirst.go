// Package highfirst: whole numbers as bytes, the high one first.
package highfirst

// Integer has all kinds of whole numbers.
type Integer interface {
	~int | ~int8 | ~int16 | ~int32 | ~int64 | ~uint | ~uint8 | ~uint16 | ~uint32 | ~uint64 | ~uintptr
}

// Append puts the lowest size bytes of v, at most eight, behind out.
func Append[T Integer](out []byte, v T, size int) []byte {
	// 64 bits, for a narrow kind with a sign has it in the bytes above its own too.
	wide := uint64(v)
	for i := size - 1; i >= 0; i-- {
		out = append(out, byte(wide>>(8*i)))
	}
	return out
}

// Join moves the bytes in at the low end of high, one after the other; what is moved out at its high end is lost.
func Join[T Integer](high T, in []byte) T {
	wide := uint64(high)
	for _, b := range in {
		wide = wide<<8 | uint64(b)
	}
	return T(wide)
}
