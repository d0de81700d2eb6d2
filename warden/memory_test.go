package warden_test

import (
	"bytes"
	"math/rand"
	"testing"

	"warden/api"
	"warden/warden"
)

// roomy gives the bytes of b with spare room behind them, and a check that nothing was written into either.
func roomy(t *testing.T, b []byte) (given []byte, check func(call string)) {
	whole := append(bytes.Clone(b), bytes.Repeat([]byte{0xA5}, 400)...)
	before := bytes.Clone(whole)
	return whole[:len(b)], func(call string) {
		t.Helper()
		if !bytes.Equal(whole, before) {
			t.Errorf("P2: %s wrote into what was handed in, or its spare room", call)
		}
	}
}

func TestWhatIsHandedInIsNotWrittenInto(t *testing.T) {
	for _, n := range []int{0, 1, 100, 200} {
		plain, check := roomy(t, bytes.Repeat([]byte{7}, n))
		sealed, _ := warden.Seal(1, 2, 3, plain)
		check("Seal")
		warden.Hash(plain)
		check("Hash")
		given, check := roomy(t, sealed)
		warden.Unseal(1, 2, given)
		check("Unseal")
		warden.Unseal(2, 2, given)
		check("Unseal with another key")
		box, check := roomy(t, makeList(makeText(n), makeNumber(9)))
		warden.Show(box)
		check("Show")
	}
}

func TestWhatIsHandedInIsNotKept(t *testing.T) {
	plain := []byte("what is sealed")
	sealed, _ := warden.Seal(1, 2, 3, plain)
	want := bytes.Clone(sealed)
	clear(plain)
	if !bytes.Equal(sealed, want) {
		t.Error("P2: what Seal gave shares memory with the plain")
	}
	opened, _ := warden.Unseal(1, 2, sealed)
	clear(sealed)
	if string(opened) != "what is sealed" {
		t.Error("P2: what Unseal gave shares memory with what was sealed")
	}
	box := makeText(3)
	shown, _ := warden.Show(box)
	clear(box)
	if shown != `"616161"` {
		t.Error("P2: what Show gave shares memory with the box")
	}
}

// spoil writes into all of b, spare room too.
func spoil(b []byte) {
	whole := b[:cap(b)]
	for i := range whole {
		whole[i] ^= 0xFF
	}
}

func TestWhatComesOutIsTheCallers(t *testing.T) {
	for _, n := range []int{0, 1, 8, 200} {
		plain := bytes.Repeat([]byte{7}, n)
		one, _ := warden.Seal(1, 2, 3, plain)
		two, _ := warden.Seal(1, 2, 3, plain)
		want := bytes.Clone(two)
		spoil(one)
		three, _ := warden.Seal(1, 2, 3, plain)
		if !bytes.Equal(two, want) || !bytes.Equal(three, want) {
			t.Errorf("P2: what Seal gives of %d bytes is shared", n)
		}
		opened, _ := warden.Unseal(1, 2, two)
		other, _ := warden.Unseal(1, 2, two)
		spoil(opened)
		again, _ := warden.Unseal(1, 2, two)
		if !bytes.Equal(two, want) || !bytes.Equal(other, plain) || !bytes.Equal(again, plain) {
			t.Errorf("P2: what Unseal gives of %d bytes is shared", n)
		}
	}
}

func TestNoCallPanicsAtAnyBytes(t *testing.T) {
	r := rand.New(rand.NewSource(13))
	for range 20000 {
		data := randomBytes(r, r.Intn(320))
		use := r.Intn(9) - 2
		warden.Hash(data)
		sealed, e := warden.Seal(r.Uint64(), use, r.Uint64(), data)
		if (e == api.OK) != (sealed != nil) {
			t.Fatalf("P1: Seal with use %d of %d bytes = %v, %d", use, len(data), sealed, e)
		}
		if plain, e := warden.Unseal(r.Uint64(), use, data); e == api.OK || plain != nil {
			t.Fatalf("P1: Unseal with use %d of %v = %v, %d", use, data, plain, e)
		}
		if shown, e := warden.Show(data); (e == api.OK) != (shown != "") {
			t.Fatalf("P1: Show(%v) = %q, %d", data, shown, e)
		}
	}
}
