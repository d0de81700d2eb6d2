package warden_test

import (
	"bytes"
	"encoding/hex"
	"math"
	"math/rand"
	"testing"

	"warden/api"
	"warden/warden"
)

// The wanted bytes of the tables here were worked out by another program, from the document's words.

func TestHashOfKnownBytes(t *testing.T) {
	all := make([]byte, 256)
	for i := range all {
		all[i] = byte(i)
	}
	for _, c := range []struct {
		data string
		want uint64
	}{
		{"", 0},
		{"\x00", 0x9e3779bd8ef1b1de},
		{"\xff", 0x3779b97ef1b1defa},
		{"a", 0x913c99063367481f},
		{"ab", 0x5a397f2f63e013c7},
		{"ba", 0x3f3bf0782b9fba2e},
		{"\x00\x00", 0x76def80861865b15},
		{"warden", 0x3c517b10cedbbd94},
		{string(all), 0xce1e464bcb883a42},
	} {
		if h := warden.Hash([]byte(c.data)); h != c.want {
			t.Errorf("P3: Hash(%q) = %#x, want %#x", c.data, h, c.want)
		}
	}
	if h := warden.Hash(nil); h != 0 {
		t.Errorf("P3: Hash(nil) = %#x, want 0", h)
	}
}

var knownSeals = []struct {
	key   uint64
	use   int
	draw  uint64
	plain string
	want  string
}{
	{0, 1, 0, "", "00000000000000009699da5ab8a39872"},
	{1, 2, 2, "a", "00000000000000022687173c5775309954"},
	{math.MaxUint64, 5, math.MaxUint64, "warden", "ffffffffffffffffe353a20a68c54615c9f8702ac6e5"},
	{0x0102030405060708, 3, 0x1112131415161718, string(make([]byte, 10)), "1112131415161718d2700ead4be98725c46228e16a5a44c87dae"},
	{7, 4, 9, "tickets for clients", "000000000000000972cd218b1b69c87991f946f21362c42e87f3561230bb22c0266a93"},
	{3, 1, 4, string(make([]byte, 200)), "0000000000000004" +
		"d97715b452f08e2dcb6907a544e2801ebd5bf99735d47210ae4ceb8927c56402a03edc7b19b755f4" +
		"9230ce6c0ba947e58322c05efc9b39d77513b250ee8c2ac96705a342e07e1cba59f79533d2700eac" +
		"4ae98725c361009e3cda7917b553f1902ecc6a09a745e38120be5cfa9837d57311b04eec8a28c765" +
		"03a13fde7c1ab857f59331cf6e0caa48e78523c15ffe9c3ad87615b351ef8e2cca6806a543e17f1e" +
		"bc5af89635d3710fad4cea8826c563019f3ddc7a18b654f3912fcd6c0aa846e48321bf5dfc9a38d6" +
		"b9640f39a2d0b6b6"},
}

func TestKnownSeals(t *testing.T) {
	for _, c := range knownSeals {
		sealed, e := warden.Seal(c.key, c.use, c.draw, []byte(c.plain))
		if got := hex.EncodeToString(sealed); got != c.want || e != api.OK {
			t.Errorf("P3: Seal(%d, %d, %d, %q) = %s, %d, want %s", c.key, c.use, c.draw, c.plain, got, e, c.want)
		}
		given, _ := hex.DecodeString(c.want)
		plain, e := warden.Unseal(c.key, c.use, given)
		if string(plain) != c.plain || e != api.OK {
			t.Errorf("P3: Unseal(%d, %d, %s) = %q, %d, want %q", c.key, c.use, c.want, plain, e, c.plain)
		}
	}
}

func randomBytes(r *rand.Rand, n int) []byte {
	b := make([]byte, n)
	r.Read(b)
	return b
}

func TestSealsOpenAtEveryLength(t *testing.T) {
	r := rand.New(rand.NewSource(11))
	for n := range api.MaxPlain + 1 {
		for use := 1; use <= 5; use++ {
			key, draw, plain := r.Uint64(), r.Uint64(), randomBytes(r, n)
			sealed, e := warden.Seal(key, use, draw, plain)
			if len(sealed) != n+16 || e != api.OK {
				t.Fatalf("P3: Seal of %d bytes has %d, %d", n, len(sealed), e)
			}
			if opened, e := warden.Unseal(key, use, sealed); !bytes.Equal(opened, plain) || e != api.OK {
				t.Fatalf("P3: Unseal with use %d = %v, %d, want %v", use, opened, e, plain)
			}
		}
	}
}

func wantClosed(t *testing.T, what string, key uint64, use int, sealed []byte) {
	t.Helper()
	if plain, e := warden.Unseal(key, use, sealed); plain != nil || e != api.ErrSeal {
		t.Errorf("P3: Unseal with %s = %v, %d, want nil, ErrSeal", what, plain, e)
	}
}

func TestOtherKeyUseOrByteDoesNotOpen(t *testing.T) {
	for _, n := range []int{0, 1, 16, 127, 128, api.MaxPlain} {
		plain := randomBytes(rand.New(rand.NewSource(int64(n))), n)
		sealed, _ := warden.Seal(77, 3, 99, plain)
		wantClosed(t, "another key", 78, 3, sealed)
		wantClosed(t, "another key's high bit", 77|1<<63, 3, sealed)
		wantClosed(t, "another use", 77, 2, sealed)
		for i := range sealed {
			changed := bytes.Clone(sealed)
			changed[i] ^= 128
			wantClosed(t, "a changed byte", 77, 3, changed)
		}
		wantClosed(t, "a byte less", 77, 3, sealed[:len(sealed)-1])
		wantClosed(t, "a byte less at its head", 77, 3, sealed[1:])
		wantClosed(t, "a byte more", 77, 3, append(bytes.Clone(sealed), 0))
	}
}

// rawSeal seals plains of any length, which Seal itself refuses.
func rawSeal(key uint64, use int, draw uint64, plain []byte) []byte {
	head := highFirst(key, 8)
	head = append(head, byte(use))
	head = append(head, highFirst(draw, 8)...)
	out := highFirst(draw, 8)
	for i, b := range plain {
		place := append(bytes.Clone(head), highFirst(uint64(i), 2)...)
		out = append(out, b^byte(warden.Hash(place)>>56))
	}
	return append(out, highFirst(warden.Hash(append(head, plain...)), 8)...)
}

func highFirst(v uint64, size int) []byte {
	out := make([]byte, size)
	for i := range out {
		out[i] = byte(v >> (8 * (size - 1 - i)))
	}
	return out
}

func TestPlainsAboveMaxPlain(t *testing.T) {
	for _, n := range []int{201, 255, 256, 70000} {
		plain := make([]byte, n)
		if sealed, e := warden.Seal(1, 1, 2, plain); sealed != nil || e != api.ErrArg {
			t.Errorf("P3: Seal of %d bytes = %d bytes, %d, want nil, ErrArg", n, len(sealed), e)
		}
		wantClosed(t, "a plain above MaxPlain", 1, 1, rawSeal(1, 1, 2, plain))
	}
	if plain, e := warden.Unseal(1, 1, rawSeal(1, 1, 2, make([]byte, 200))); len(plain) != 200 || e != api.OK {
		t.Errorf("P3: Unseal of MaxPlain bytes = %d bytes, %d", len(plain), e)
	}
}

func TestSealedBytesTooFew(t *testing.T) {
	for n := range 16 {
		wantClosed(t, "fewer than 16 bytes", 0, 1, make([]byte, n))
	}
	wantClosed(t, "nil", 0, 1, nil)
	if plain, e := warden.Unseal(5, 1, rawSeal(5, 1, 6, nil)); len(plain) != 0 || e != api.OK {
		t.Errorf("P3: Unseal of a sealed nothing = %v, %d", plain, e)
	}
}

func TestWrongUses(t *testing.T) {
	opens := rawSeal(1, 1, 2, []byte("plain"))
	for _, use := range []int{0, 6, -1, -255, 256, 257, 261, 1 << 32, 1<<32 + 1, math.MaxInt, math.MinInt, math.MinInt + 1} {
		for _, plain := range [][]byte{nil, []byte("plain"), make([]byte, 201)} {
			if sealed, e := warden.Seal(1, use, 2, plain); sealed != nil || e != api.ErrArg {
				t.Errorf("P3: Seal with use %d = %v, %d, want nil, ErrArg", use, sealed, e)
			}
		}
		for _, sealed := range [][]byte{nil, opens, rawSeal(1, use, 2, nil), make([]byte, 15), make([]byte, 5000)} {
			if plain, e := warden.Unseal(1, use, sealed); plain != nil || e != api.ErrArg {
				t.Errorf("P1, P3: Unseal with use %d = %v, %d, want nil, ErrArg", use, plain, e)
			}
		}
	}
}
