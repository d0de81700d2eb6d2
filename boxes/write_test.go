package boxes

import (
	"bytes"
	"testing"
)

func TestWrittenTextsAndLists(t *testing.T) {
	for _, c := range []struct {
		length int
		head   []byte
	}{
		{0, []byte{0}},
		{1, []byte{1}},
		{127, []byte{127}},
		{128, []byte{129, 128}},
		{255, []byte{129, 255}},
		{256, []byte{130, 1, 0}},
		{300, []byte{130, 1, 44}},
		{65535, []byte{130, 255, 255}},
	} {
		in := bytes.Repeat([]byte{7}, c.length)
		behind := append(bytes.Clone(c.head), in...)
		if out := AppendText([]byte("ahead"), in); !bytes.Equal(out, append([]byte("ahead\x04"), behind...)) {
			t.Errorf("AppendText of %d bytes begins with %v", c.length, out[5:min(len(out), 10)])
		}
		if out := AppendText([]byte("ahead"), string(in)); !bytes.Equal(out, append([]byte("ahead\x04"), behind...)) {
			t.Errorf("AppendText of a string of %d bytes begins with %v", c.length, out[5:min(len(out), 10)])
		}
		// With no spare room, and with more than enough.
		for _, room := range []int{0, 1, 70000} {
			written := append(make([]byte, 0, 5+c.length+room), "ahead"...)
			written = append(written, in...)
			if out := Wrap(written, 5, List); !bytes.Equal(out, append([]byte("ahead\x30"), behind...)) {
				t.Errorf("Wrap of %d bytes as a list begins with %v", c.length, out[5:min(len(out), 10)])
			}
		}
	}
}

func TestWrappedInOneAnother(t *testing.T) {
	out := Wrap([]byte{1, 2, 3}, 1, Text)
	out = Wrap(out, 1, List)
	out = Wrap(out, 0, List)
	out = Wrap(out, len(out), Text)
	if want := []byte{48, 7, 1, 48, 4, 4, 2, 2, 3, 4, 0}; !bytes.Equal(out, want) {
		t.Errorf("boxes that are wrapped = %v, want %v", out, want)
	}
}

func TestSomeNumbersAreWrittenInTheirOrder(t *testing.T) {
	if out := AppendNumbers([]byte{9}, int64(1), -1, 128); !bytes.Equal(out, []byte{9, 2, 1, 1, 2, 1, 255, 2, 2, 0, 128}) {
		t.Errorf("AppendNumbers = %v", out)
	}
	if out := AppendNumbers[int]([]byte{9}); !bytes.Equal(out, []byte{9}) {
		t.Errorf("AppendNumbers of none = %v", out)
	}
}
