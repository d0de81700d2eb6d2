package warden_test

import (
	"bytes"
	"math/rand"
	"testing"

	"warden/api"
	"warden/warden"
)

// roomy gives the bytes of b with spare room behind them, and a check that nothing was written into either.
func roomy(t *testing.T, b []byte) (given []byte, check func(call string)) {
	whole := append(bytes.Clone(b), bytes.Repeat([]byte{0xA5}, 400)...)
	before := bytes.Clone(whole)
	return whole[:len(b)], func(call string) {
		t.Helper()
		if !bytes.Equal(whole, before) {
			t.Errorf("P2: %s wrote into what was handed in, or its spare room", call)
		}
	}
}

func TestWhatIsHandedInIsNotWrittenInto(t *testing.T) {
	for _, n := range []int{0, 1, 100, 200} {
		plain, check := roomy(t, bytes.Repeat([]byte{7}, n))
		sealed, _ := warden.Seal(1, 2, 3, plain)
		check("Seal")
		warden.Hash(plain)
		check("Hash")
		given, check := roomy(t, sealed)
		warden.Unseal(1, 2, given)
		check("Unseal")
		warden.Unseal(2, 2, given)
		check("Unseal with another key")
		box, check := roomy(t, makeList(makeText(n), makeNumber(9)))
		warden.Show(box)
		check("Show")
	}
}

func TestWhatIsHandedInIsNotKept(t *testing.T) {
	plain := []byte("what is sealed")
	sealed, _ := warden.Seal(1, 2, 3, plain)
	want := bytes.Clone(sealed)
	clear(plain)
	if !bytes.Equal(sealed, want) {
		t.Error("P2: what Seal gave shares memory with the plain")
	}
	opened, _ := warden.Unseal(1, 2, sealed)
	clear(sealed)
	if string(opened) != "what is sealed" {
		t.Error("P2: what Unseal gave shares memory with what was sealed")
	}
	box := makeText(3)
	shown, _ := warden.Show(box)
	clear(box)
	if shown != `"616161"` {
		t.Error("P2: what Show gave shares memory with the box")
	}
}

// spoil writes into all of b, spare room too.
func spoil(b []byte) {
	whole := b[:cap(b)]
	for i := range whole {
		whole[i] ^= 0xFF
	}
}

func TestWhatComesOutIsTheCallers(t *testing.T) {
	for _, n := range []int{0, 1, 8, 200} {
		plain := bytes.Repeat([]byte{7}, n)
		one, _ := warden.Seal(1, 2, 3, plain)
		two, _ := warden.Seal(1, 2, 3, plain)
		want := bytes.Clone(two)
		spoil(one)
		three, _ := warden.Seal(1, 2, 3, plain)
		if !bytes.Equal(two, want) || !bytes.Equal(three, want) {
			t.Errorf("P2: what Seal gives of %d bytes is shared", n)
		}
		opened, _ := warden.Unseal(1, 2, two)
		other, _ := warden.Unseal(1, 2, two)
		spoil(opened)
		again, _ := warden.Unseal(1, 2, two)
		if !bytes.Equal(two, want) || !bytes.Equal(other, plain) || !bytes.Equal(again, plain) {
			t.Errorf("P2: what Unseal gives of %d bytes is shared", n)
		}
	}
}

func TestNoCallPanicsAtAnyBytes(t *testing.T) {
	r := rand.New(rand.NewSource(13))
	for range 20000 {
		data := randomBytes(r, r.Intn(320))
		use := r.Intn(9) - 2
		warden.Hash(data)
		sealed, e := warden.Seal(r.Uint64(), use, r.Uint64(), data)
		if (e == api.OK) != (sealed != nil) {
			t.Fatalf("P1: Seal with use %d of %d bytes = %v, %d", use, len(data), sealed, e)
		}
		if plain, e := warden.Unseal(r.Uint64(), use, data); e == api.OK || plain != nil {
			t.Fatalf("P1: Unseal with use %d of %v = %v, %d", use, data, plain, e)
		}
		if shown, e := warden.Show(data); (e == api.OK) != (shown != "") {
			t.Fatalf("P1: Show(%v) = %q, %d", data, shown, e)
		}
	}
}

func TestRequestsStayTheirOwners(t *testing.T) {
	for kind, boxes := range rightRequests() {
		request, check := roomy(t, makeList(boxes...))
		deskOf(t, 24, usual(0)...).Answer(1000, request)
		check("Answer of " + kind)
		deskOf(t, 0).Answer(1000, request)
		check("Answer, a refusal, of " + kind)
	}
	// A request that is changed behind the call, ahead of another.
	p := deskOf(t, 48, usual(0)...)
	request := plainNext(plainGrant).write()
	reply := p.Answer(1000, request)
	spoil(request)
	if !bytes.Equal(reply, toWeb(0).toNext()) {
		t.Error("P2: a reply shares memory with its request")
	}
	wantCode(t, "the same proof", p, 1000, plainNext(plainGrant).write(), api.Repeat)
	wantRepeats(t, p, 1)
	// Draws that are changed behind NewPlain.
	draws := drawBytes(24)
	p = newDesk(t, 10, draws)
	for _, a := range usual(0) {
		a.Kind = api.Add
		wantAdmin(t, p, a, api.OK)
	}
	spoil(draws)
	wantAnswer(t, "changed draws", p, 1000, plainNext(plainGrant).write(), toWeb(0).toNext())
}

func TestRepliesAreTheCallers(t *testing.T) {
	p := deskOf(t, 240, usual(0)...)
	g := grant{flags: 32, client: "al", auth: 1000, start: 1000, end: 1100}
	var replies, wants [][]byte
	answer := func(request, want []byte) {
		t.Helper()
		wantAnswer(t, "behind spoilt replies", p, 1000, request, want)
		for _, reply := range replies {
			spoil(reply)
			_ = append(reply, 1, 2, 3)
		}
	}
	for i := range 4 {
		ask := plainNext(plainGrant)
		ask.proof = makeProof(50, "al", 1000, int64(i))
		answer(plainFirst.write(), toTgs(g).drawnFrom(6*i).toFirst())
		replies = append(replies, p.Answer(1000, nil), p.Answer(1000, ask.write()), p.Answer(1000, ask.write()))
	}
	wantState(t, p, api.State{Names: []string{"al", "tgs", "web"}, Numbers: []int{1, 1, 1}, Repeats: 4, Left: 240 - 4*48})
	// No two of them share any: one is spoilt, the others stay.
	p = deskOf(t, 240, usual(0)...)
	replies = [][]byte{p.Answer(1000, plainFirst.write()), p.Answer(1000, plainFirst.write()), p.Answer(1000, nil), p.Answer(1000, nil), p.Answer(1000, plainNext(plainGrant).write())}
	for _, reply := range replies {
		wants = append(wants, bytes.Clone(reply))
	}
	for i, reply := range replies {
		spoil(reply)
		for j := i + 1; j < len(replies); j++ {
			if !bytes.Equal(replies[j], wants[j]) {
				t.Errorf("P2: the replies %d and %d share memory", i, j)
			}
		}
	}
}

func TestDesksThatAnswerSideBySide(t *testing.T) {
	draws := drawBytes(72)
	p, q := newDesk(t, 10, draws), newDesk(t, 10, draws)
	for _, a := range usual(0) {
		a.Kind = api.Add
		wantAdmin(t, p, a, api.OK)
		wantAdmin(t, q, a, api.OK)
	}
	request := plainNext(plainGrant).write()
	wantAnswer(t, "one desk", p, 1000, request, toWeb(0).toNext())
	wantRepeats(t, q, 0)
	wantAnswer(t, "the other desk", q, 1000, request, toWeb(0).toNext())
	wantCode(t, "one desk again", p, 1000, request, api.Repeat)
	// A copy of a desk is one of its own too.
	copied := p.copied()
	ask := plainNext(plainGrant)
	ask.proof = makeProof(50, "al", 1000, 2)
	wantAnswer(t, "a copy", copied, 1000, ask.write(), toWeb(0).drawnFrom(3).toNext())
	wantCode(t, "a copy, later", copied, 5000, showProof("al", 5000, 1), api.ServiceUnknown)
	wantRepeats(t, p, 1)
	wantCode(t, "one desk again", p, 1000, request, api.Repeat)
	wantAnswer(t, "one desk", p, 1000, ask.write(), toWeb(0).drawnFrom(3).toNext())
}
