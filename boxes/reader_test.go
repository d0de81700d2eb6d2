package boxes

import "testing"

func TestReaderTakesBoxesInTheirOrder(t *testing.T) {
	// {5, "ab", {-1, 6}, 7}
	in := ReadList([]byte{48, 18, 2, 1, 5, 4, 2, 'a', 'b', 48, 6, 2, 1, 255, 2, 1, 6, 2, 1, 7})
	var five, minus, seven int64
	var six uint8
	TakeNumbers(&in, &five)
	text := in.Text()
	list := in.List()
	TakeNumbers(&list, &minus)
	if list.Empty() || list.Done() || in.Empty() || in.Done() {
		t.Error("a reader is done too early")
	}
	TakeNumbers(&list, &six)
	TakeNumbers(&in, &seven)
	if five != 5 || string(text) != "ab" || minus != -1 || six != 6 || seven != 7 {
		t.Errorf("read %d, %q, %d, %d, %d", five, text, minus, six, seven)
	}
	if !list.Empty() || !list.Done() || !in.Empty() || !in.Done() {
		t.Error("a reader is not done")
	}
}

// wantFailed wants that nothing more can be taken.
func wantFailed(t *testing.T, what string, in Reader) {
	t.Helper()
	number := int64(9)
	TakeNumbers(&in, &number)
	list := in.List()
	if text := in.Text(); text != nil || number != 0 || in.Done() || list.Done() || !in.Empty() {
		t.Errorf("behind %s: %d, %q, %v, %v", what, number, text, in.Done(), list.Done())
	}
}

func TestReaderFailsForGood(t *testing.T) {
	behind := []byte{2, 1, 6, 4, 1, 'a', 48, 0}
	takes := map[string]func(in *Reader){
		"a number": func(in *Reader) { TakeNumbers(in, new(int64)) },
		"a text":   func(in *Reader) { in.Text() },
		"a list":   func(in *Reader) { in.List() },
	}
	for _, c := range []struct {
		what string
		box  []byte
	}{
		{"a number", []byte{4, 1, 5}}, {"a number", []byte{48, 0}}, {"a number", []byte{2, 0}}, {"a number", []byte{2, 2, 0, 1}}, {"a number", []byte{3, 1, 5}},
		{"a text", []byte{2, 1, 5}}, {"a text", []byte{48, 0}}, {"a text", []byte{4, 129, 1, 5}}, {"a text", []byte{4, 100}}, {"a text", []byte{5, 0}},
		{"a list", []byte{2, 1, 5}}, {"a list", []byte{4, 0}}, {"a list", []byte{48, 130, 0, 1, 5}}, {"a list", []byte{49, 0}},
	} {
		in := Read(append(c.box, behind...))
		takes[c.what](&in)
		wantFailed(t, c.what, in)
	}
	for what, take := range takes {
		in := Read(nil)
		take(&in)
		wantFailed(t, what+" of nothing", in)
	}
	in := Read(behind)
	in.Need(true)
	if in.Empty() {
		t.Error("what holds fails")
	}
	in.Need(false)
	wantFailed(t, "what does not hold", in)
}

func TestOneListAlone(t *testing.T) {
	for _, data := range [][]byte{nil, {2, 1, 5}, {4, 0}, {48, 0, 0}, {48, 1}, {48, 3, 2, 1, 5, 48, 0}, {48, 129, 0}} {
		wantFailed(t, "what is not one list", ReadList(data))
	}
	in := ReadList([]byte{48, 0})
	if !in.Done() {
		t.Error("an empty list is not done")
	}
}

func TestNumbersThatTheirPlaceCannotHold(t *testing.T) {
	in := Read([]byte{2, 2, 1, 0, 2, 1, 5})
	var small uint8
	TakeNumbers(&in, &small)
	wantFailed(t, "a number that is too great", in)
}
