package warden_test

import (
	"bytes"
	"encoding/hex"
	"math"
	"math/rand"
	"strconv"
	"strings"
	"testing"

	"warden/api"
	"warden/warden"
)

// makeBox writes a box as the document says it.
func makeBox(tag byte, in ...byte) []byte {
	n := len(in)
	switch {
	case n < 128:
		return append([]byte{tag, byte(n)}, in...)
	case n < 256:
		return append([]byte{tag, 129, byte(n)}, in...)
	}
	return append([]byte{tag, 130, byte(n >> 8), byte(n)}, in...)
}

func makeNumber(v int64) []byte {
	size := 1
	for size < 8 && (v < -1<<(8*size-1) || v >= 1<<(8*size-1)) {
		size++
	}
	return makeBox(2, highFirst(uint64(v), size)...)
}

func makeText(n int) []byte { return makeBox(4, bytes.Repeat([]byte{'a'}, n)...) }

func makeList(in ...[]byte) []byte { return makeBox(48, bytes.Join(in, nil)...) }

func nest(in []byte, deep int) []byte {
	for range deep {
		in = makeList(in)
	}
	return in
}

func wantShown(t *testing.T, box []byte, want string) {
	t.Helper()
	if shown, e := warden.Show(box); shown != want || e != api.OK {
		t.Errorf("P4: Show(%v) = %s, %d, want %s", box, shown, e, want)
	}
}

func wantNoBox(t *testing.T, what string, box []byte) {
	t.Helper()
	if shown, e := warden.Show(box); shown != "" || e != api.ErrBox {
		t.Errorf("P4: Show of %s = %q, %d, want ErrBox", what, shown, e)
	}
}

func TestShowNumbers(t *testing.T) {
	for _, c := range []struct {
		box  []byte
		want string
	}{
		{[]byte{2, 1, 0}, "0"},
		{[]byte{2, 1, 10}, "10"},
		{[]byte{2, 1, 255}, "-1"},
		{[]byte{2, 1, 127}, "127"},
		{[]byte{2, 2, 0, 128}, "128"},
		{[]byte{2, 1, 128}, "-128"},
		{[]byte{2, 2, 255, 127}, "-129"},
		{[]byte{2, 2, 127, 255}, "32767"},
		{[]byte{2, 3, 0, 128, 0}, "32768"},
		{[]byte{2, 2, 128, 0}, "-32768"},
		{[]byte{2, 8, 127, 255, 255, 255, 255, 255, 255, 255}, "9223372036854775807"},
		{[]byte{2, 8, 128, 0, 0, 0, 0, 0, 0, 0}, "-9223372036854775808"},
	} {
		wantShown(t, c.box, c.want)
	}
	for shift := range 64 {
		for _, near := range []int64{-2, -1, 0, 1, 2} {
			for _, v := range []int64{1<<shift + near, -1<<shift + near} {
				wantShown(t, makeNumber(v), strconv.FormatInt(v, 10))
			}
		}
	}
	for _, v := range []int64{math.MaxInt64, math.MinInt64} {
		wantShown(t, makeList(makeNumber(v)), "{"+strconv.FormatInt(v, 10)+"}")
	}
}

func TestShowRefusesNumbersLongerThanNeeded(t *testing.T) {
	for size := 1; size < 8; size++ {
		for _, v := range []int64{0, 1<<(8*size-1) - 1} {
			wantNoBox(t, "a number with a byte too many", makeBox(2, highFirst(uint64(v), size+1)...))
			wantNoBox(t, "a number with a byte too many", makeBox(2, highFirst(uint64(^v), size+1)...))
		}
	}
	wantNoBox(t, "a number without bytes", []byte{2, 0})
	wantNoBox(t, "a number of nine bytes", makeBox(2, 0, 128, 0, 0, 0, 0, 0, 0, 0))
	wantNoBox(t, "a number of nine bytes", makeBox(2, 1, 2, 3, 4, 5, 6, 7, 8, 9))
	wantNoBox(t, "a number of 200 bytes", makeBox(2, bytes.Repeat([]byte{1}, 200)...))
}

func TestShowTexts(t *testing.T) {
	all := make([]byte, 256)
	for i := range all {
		all[i] = byte(i)
	}
	wantShown(t, makeBox(4, all...), `"`+hex.EncodeToString(all)+`"`)
	wantShown(t, []byte{4, 0}, `""`)
	wantShown(t, []byte{4, 3, 0, 171, 255}, `"00abff"`)
	for _, n := range []int{1, 126, 127, 128, 129, 254, 255, 256, 257, 296} {
		wantShown(t, makeText(n), `"`+strings.Repeat("61", n)+`"`)
	}
}

func TestShowRefusesWrongLengths(t *testing.T) {
	for n := range 128 {
		wantNoBox(t, "a length below 128 behind 129", append([]byte{4, 129, byte(n)}, make([]byte, n)...))
	}
	for n := range 256 {
		wantNoBox(t, "a length below 256 behind 130", append([]byte{4, 130, 0, byte(n)}, make([]byte, n)...))
	}
	for first := 131; first < 256; first++ {
		wantNoBox(t, "another first byte", append([]byte{4, byte(first), 0, 0, 0, 200}, make([]byte, 200)...))
	}
	wantNoBox(t, "the length's first byte 128", append([]byte{4, 128}, make([]byte, 128)...))
	wantNoBox(t, "a length of no bytes more", []byte{4, 129})
	wantNoBox(t, "a length of one byte of two", []byte{4, 130, 1})
}

func TestShowRefusesEveryCutAndAnyTail(t *testing.T) {
	for _, box := range [][]byte{makeNumber(1 << 40), makeText(0), makeText(128), makeText(256), nest(makeText(130), 2), makeList(makeNumber(1), makeText(2), makeList())} {
		for n := range box {
			wantNoBox(t, "a cut box", box[:n])
		}
		wantNoBox(t, "a box with a byte behind it", append(bytes.Clone(box), 0))
		wantNoBox(t, "a box with a box behind it", append(bytes.Clone(box), 2, 1, 0))
	}
	wantNoBox(t, "nil", nil)
}

func TestShowLists(t *testing.T) {
	one, text := makeNumber(1), makeText(1)
	wantShown(t, []byte{48, 9, 2, 1, 10, 2, 1, 255, 4, 1, 97}, `{10,-1,"61"}`)
	wantShown(t, []byte{48, 0}, "{}")
	wantShown(t, makeList(makeList(), makeList()), "{{},{}}")
	wantShown(t, makeList(one, makeList(text, one), text), `{1,{"61",1},"61"}`)
	wantShown(t, makeList(makeText(123), one), `{"`+strings.Repeat("61", 123)+`",1}`)
	wantShown(t, makeList(makeText(252), one), `{"`+strings.Repeat("61", 252)+`",1}`)
	wantNoBox(t, "a list with half a box", makeList(one, []byte{4}))
	wantNoBox(t, "a list with a wrong number", makeList(one, []byte{2, 2, 0, 1}))
	wantNoBox(t, "a list whose box goes on behind it", []byte{48, 2, 4, 1, 97})
	wantNoBox(t, "a list with an unknown tag", makeList([]byte{5, 0}))
}

func TestShowDeepLists(t *testing.T) {
	wantShown(t, nest(makeNumber(5), 8), "{{{{{{{{5}}}}}}}}")
	wantShown(t, nest(makeList(), 7), "{{{{{{{{}}}}}}}}")
	wantShown(t, makeList(nest(makeList(), 6), nest(makeList(), 6), makeNumber(1)), "{{{{{{{{}}}}}}},{{{{{{{}}}}}}},1}")
	wantShown(t, nest(makeList(makeList(), makeList()), 6), "{{{{{{{{},{}}}}}}}}")
	wantNoBox(t, "a number in nine lists", nest(makeNumber(5), 9))
	wantNoBox(t, "nine lists", nest(makeList(), 8))
	wantNoBox(t, "nine lists behind a number", makeList(makeNumber(1), nest(makeList(), 7)))
	wantNoBox(t, "many lists", nest(makeList(), 60))
}

func TestShowRefusesOtherTags(t *testing.T) {
	for tag := range 256 {
		if tag != 2 && tag != 4 && tag != 48 {
			wantNoBox(t, "an unknown tag", []byte{byte(tag), 1, 0})
			wantNoBox(t, "an unknown tag without bytes", []byte{byte(tag), 0})
		}
	}
}

func TestShowAtMaxRequest(t *testing.T) {
	for _, box := range [][]byte{makeText(296), makeList(makeText(292)), makeList(makeText(289), makeNumber(7))} {
		if shown, e := warden.Show(box); len(box) != 300 || shown == "" || e != api.OK {
			t.Errorf("P4: Show of %d bytes = %s, %d", len(box), shown, e)
		}
	}
	for _, box := range [][]byte{makeText(297), makeList(makeText(293)), makeText(65535), make([]byte, 1<<20)} {
		wantNoBox(t, "more than MaxRequest bytes", box)
	}
}

// readShown writes the box of a shown text anew, and gives what is behind it.
func readShown(shown string) (box []byte, rest string) {
	if rest, ok := strings.CutPrefix(shown, `"`); ok {
		digits, rest, _ := strings.Cut(rest, `"`)
		in, _ := hex.DecodeString(digits)
		return makeBox(4, in...), rest
	}
	if rest, ok := strings.CutPrefix(shown, "{"); ok {
		var in, one []byte
		for rest[0] != '}' {
			one, rest = readShown(strings.TrimPrefix(rest, ","))
			in = append(in, one...)
		}
		return makeBox(48, in...), rest[1:]
	}
	end := strings.IndexAny(shown+",", ",}")
	v, _ := strconv.ParseInt(shown[:end], 10, 64)
	return makeNumber(v), shown[end:]
}

func randomBox(r *rand.Rand, deep int) []byte {
	switch r.Intn(3) {
	case 0:
		return makeNumber(int64(r.Uint64()) >> r.Intn(64))
	case 1:
		return makeBox(4, randomBytes(r, r.Intn(12))...)
	}
	var in []byte
	for range r.Intn(4) {
		if deep > 1 {
			in = append(in, randomBox(r, deep-1)...)
		}
	}
	return makeBox(48, in...)
}

// A box has one way to be written, and what is shown tells all of it: so whatever Show takes comes back the same.
func TestWhatIsShownTellsTheBox(t *testing.T) {
	r := rand.New(rand.NewSource(12))
	taken := 0
	for range 20000 {
		box := randomBox(r, 8)
		if len(box) > api.MaxRequest {
			continue
		}
		if _, e := warden.Show(box); e != api.OK {
			t.Fatalf("P4: Show(%v) = %d", box, e)
		}
		for range r.Intn(3) {
			box[r.Intn(len(box))] = []byte{0, 1, 2, 4, 48, 127, 128, 129, 130, 255}[r.Intn(10)]
		}
		shown, e := warden.Show(box)
		if e != api.OK {
			continue
		}
		taken++
		if again, rest := readShown(shown); !bytes.Equal(again, box) || rest != "" {
			t.Fatalf("P4: Show(%v) = %s, which is %v", box, shown, again)
		}
	}
	if taken < 1000 {
		t.Errorf("only %d boxes were taken", taken)
	}
}
