// Package boxes: numbers, texts and lists as bytes.
package boxes

import "warden/highfirst"

// The tags.
const (
	Number = 2
	Text   = 4
	List   = 48
)

// MaxDeep is how many lists may lie in one another.
const MaxDeep = 8

// What a length begins with that is not one byte.
const (
	oneByte  = 129
	twoBytes = 130
)

// Cut parts the first box of data from the bytes behind it. It looks at the tag and the length alone, not at what is in the box.
func Cut(data []byte) (tag byte, in, rest []byte, ok bool) {
	if len(data) == 0 {
		return 0, nil, nil, false
	}
	length, rest, ok := cutLength(data[1:])
	if !ok || length > len(rest) {
		return 0, nil, nil, false
	}
	return data[0], rest[:length], rest[length:], true
}

func cutLength(data []byte) (length int, rest []byte, ok bool) {
	switch {
	case len(data) >= 1 && data[0] < 128:
		return int(data[0]), data[1:], true
	case len(data) >= 2 && data[0] == oneByte:
		length = highfirst.Join(0, data[1:2])
		return length, data[2:], length >= 128
	case len(data) >= 3 && data[0] == twoBytes:
		length = highfirst.Join(0, data[1:3])
		return length, data[3:], length >= 256
	}
	return 0, nil, false
}
