package boxes

import "strconv"

const digits = "0123456789abcdef"

// Show tells one box as a text. It is not ok, if data is not one box, whole and with nothing behind it.
func Show(data []byte) (shown string, ok bool) {
	out, rest, ok := show(nil, data, MaxDeep)
	if !ok || len(rest) > 0 {
		return "", false
	}
	return string(out), true
}

// show puts the first box of data, as a text, behind out; deep is how many lists may yet lie in one another.
func show(out, data []byte, deep int) (shown, rest []byte, ok bool) {
	tag, in, rest, ok := Cut(data)
	if !ok {
		return nil, nil, false
	}
	switch tag {
	case Number:
		shown, ok = showNumber(out, in)
	case Text:
		shown, ok = showText(out, in), true
	case List:
		shown, ok = showList(out, in, deep)
	default:
		ok = false
	}
	return shown, rest, ok
}

func showNumber(out, in []byte) (shown []byte, ok bool) {
	v, ok := ReadNumber[int64](in)
	return strconv.AppendInt(out, v, 10), ok
}

func showText(out, in []byte) []byte {
	out = append(out, '"')
	for _, b := range in {
		out = append(out, digits[b>>4], digits[b&15])
	}
	return append(out, '"')
}

func showList(out, in []byte, deep int) (shown []byte, ok bool) {
	if deep == 0 {
		return nil, false
	}
	out = append(out, '{')
	for first := true; len(in) > 0; first = false {
		if !first {
			out = append(out, ',')
		}
		if out, in, ok = show(out, in, deep-1); !ok {
			return nil, false
		}
	}
	return append(out, '}'), true
}
