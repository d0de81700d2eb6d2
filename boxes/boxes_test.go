package boxes

import (
	"bytes"
	"testing"
)

func TestCut(t *testing.T) {
	for _, c := range []struct {
		head   []byte
		length int
	}{
		{[]byte{4, 0}, 0},
		{[]byte{4, 1}, 1},
		{[]byte{4, 127}, 127},
		{[]byte{4, 129, 128}, 128},
		{[]byte{4, 129, 255}, 255},
		{[]byte{4, 130, 1, 0}, 256},
		{[]byte{4, 130, 255, 255}, 65535},
	} {
		want := bytes.Repeat([]byte{9}, c.length)
		box := append(bytes.Clone(c.head), want...)
		for _, tail := range []string{"", "t", "tail"} {
			tag, in, rest, ok := Cut(append(bytes.Clone(box), tail...))
			if tag != 4 || !bytes.Equal(in, want) || string(rest) != tail || !ok {
				t.Errorf("Cut of a head %v = %d, %d bytes, %q, %v", c.head, tag, len(in), rest, ok)
			}
		}
		if c.length > 0 {
			wantUncut(t, box[:len(box)-1])
		}
	}
}

func wantUncut(t *testing.T, data []byte) {
	t.Helper()
	if tag, in, rest, ok := Cut(data); tag != 0 || in != nil || rest != nil || ok {
		t.Errorf("Cut of %d bytes = %d, %v, %v, %v", len(data), tag, in, rest, ok)
	}
}

func TestCutOfWrongLengths(t *testing.T) {
	for _, head := range [][]byte{nil, {4}, {4, 129}, {4, 130}, {4, 130, 1}} {
		wantUncut(t, head)
	}
	for _, head := range [][]byte{{4, 128}, {4, 129, 0}, {4, 129, 127}, {4, 130, 0, 0}, {4, 130, 0, 255}, {4, 131, 0, 1, 0}, {4, 255}} {
		wantUncut(t, head)
		wantUncut(t, append(bytes.Clone(head), make([]byte, 70000)...))
	}
}
