package boxes

import (
	"slices"

	"warden/highfirst"
)

// maxHead is how many bytes a tag and a length have at most.
const maxHead = 4

// AppendText puts the box of a text behind out.
func AppendText[T ~string | ~[]byte](out []byte, text T) []byte {
	return append(appendHead(out, Text, len(text)), text...)
}

// Wrap makes one box of all that lies behind a place of out. So what is in a box can be written where it stays, ahead of its length being known.
func Wrap(out []byte, from int, tag byte) []byte {
	var room [maxHead]byte
	head := appendHead(room[:0], tag, len(out)-from)
	return slices.Insert(out, from, head...)
}

// appendHead puts a tag and a length behind out. Nothing that is written here has more than two bytes can tell.
func appendHead(out []byte, tag byte, length int) []byte {
	out = append(out, tag)
	switch {
	case length < 128:
		return highfirst.Append(out, length, 1)
	case length < 256:
		return highfirst.Append(append(out, oneByte), length, 1)
	}
	return highfirst.Append(append(out, twoBytes), length, 2)
}
