package boxes

import "warden/highfirst"

// AppendText puts the box of a text behind out.
func AppendText[T ~string | ~[]byte](out []byte, text T) []byte {
	return append(appendHead(out, Text, len(text)), text...)
}

// AppendList puts a list behind out; in has its boxes, one behind the other.
func AppendList(out, in []byte) []byte {
	return append(appendHead(out, List, len(in)), in...)
}

// appendHead puts a tag and a length behind out. Nothing that is written here has more than two bytes can tell.
func appendHead(out []byte, tag byte, length int) []byte {
	out = append(out, tag)
	switch {
	case length < 128:
		return highfirst.Append(out, length, 1)
	case length < 256:
		return highfirst.Append(append(out, oneByte), length, 1)
	}
	return highfirst.Append(append(out, twoBytes), length, 2)
}
