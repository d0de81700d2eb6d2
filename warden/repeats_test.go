package warden_test

import (
	"fmt"
	"testing"

	"warden/api"
)

// showProof gives a next request that is refused behind its proof: its service has no entry.
func showProof(client string, time, count int64) []byte {
	g := plainGrant
	g.client, g.start, g.end = client, least, greatest
	return nextAsk{ticket: makeTicket("tgs", 1, tgsKey, 5, g), proof: makeProof(50, client, time, count), service: "x"}.write()
}

// wantNew wants that a proof was not remembered.
func wantNew(t *testing.T, p teller, now int64, client string, time, count int64) {
	t.Helper()
	wantCode(t, fmt.Sprintf("a new proof of %s, %d, %d", client, time, count), p, now, showProof(client, time, count), api.ServiceUnknown)
}

// wantProof wants that a proof is refused with a code, and that nothing changes but what is forgotten.
func wantProof(t *testing.T, p teller, now int64, client string, time, count int64, code int64) {
	t.Helper()
	wantCode(t, fmt.Sprintf("a proof of %s, %d, %d", client, time, count), p, now, showProof(client, time, count), code)
}

func TestAProofTwice(t *testing.T) {
	p := deskOf(t, 240, usual(0)...)
	request := plainNext(plainGrant).write()
	wantAnswer(t, "a proof", p, 1000, request, toWeb(0).toNext())
	wantRepeats(t, p, 1)
	for now := int64(990); now <= 1010; now++ {
		wantCode(t, "the proof twice", p, now, request, api.Repeat)
	}
	// What else the request says is of no matter, nor is the ticket, the seal or the session.
	ask := plainNext(plainGrant)
	ask.service, ask.nonce, ask.till, ask.option = "tgs", 99, 1, 255
	wantCode(t, "another request", p, 1000, ask.write(), api.Repeat)
	g := grant{flags: 16, session: 51, client: "al"}
	ask = nextAsk{ticket: makeTicket("tgs", 1, tgsKey, 6, g), proof: rawSeal(51, 4, 6, makeList(textBox("al"), numberBoxes(1000, 1))), service: "x"}
	wantCode(t, "another ticket", p, 1000, ask.write(), api.Repeat)
	wantAdmin(t, p, api.Admin{Kind: api.Rekey, Name: "tgs", Key: 1}, api.OK)
	wantAdmin(t, p, api.Admin{Kind: api.Delete, Name: "al"}, api.OK)
	wantCode(t, "another book", p, 1000, request, api.Repeat)
	wantRepeats(t, p, 1)
	wantNew(t, p, 1000, "bo", 1000, 1)
	wantNew(t, p, 1000, "al", 1001, 1)
	wantNew(t, p, 1000, "al", 1000, 0)
	wantNew(t, p, 1000, "al", 1000, -1)
	wantRepeats(t, p, 5)
}

func TestOneProofMoreThanMaxRepeats(t *testing.T) {
	p := deskOf(t, 240, usual(0)...)
	for i := range int64(api.MaxRepeats) {
		wantNew(t, p, 1000, "al", 1000, i)
		wantRepeats(t, p, int(i)+1)
	}
	wantProof(t, p, 1000, "al", 1000, 8, api.Generic)
	wantProof(t, p, 1010, "al", 1010, 8, api.Generic)
	for i := range int64(api.MaxRepeats) {
		wantProof(t, p, 990, "al", 1000, i, api.Repeat)
	}
	wantRepeats(t, p, api.MaxRepeats)
	wantAnswer(t, "a first request", p, 1000, plainFirst.write(), toTgs(grant{flags: 32, client: "al", auth: 1000, start: 1000, end: 1100}).toFirst())
	wantCode(t, "a next request", p, 1000, plainNext(plainGrant).write(), api.Repeat)
	// All are forgotten at once, and there is room.
	wantNew(t, p, 1011, "al", 1001, 0)
	wantRepeats(t, p, 1)
}

func TestForgottenProofs(t *testing.T) {
	p := deskOf(t, 240, usual(0)...)
	wantNew(t, p, 1000, "al", 990, 1)
	wantNew(t, p, 1000, "al", 1000, 1)
	wantNew(t, p, 1000, "al", 1010, 1)
	wantNew(t, p, 1000, "al", 995, 1)
	wantRepeats(t, p, 4)
	// Just at the skew nothing is forgotten.
	wantProof(t, p, 1000, "al", 1000, 1, api.Repeat)
	wantRepeats(t, p, 4)
	// A proof that is itself too far away makes nothing forgotten; nor does anything ahead of that, or a first request.
	wantProof(t, p, 1011, "al", 1000, 1, api.Skewed)
	wantProof(t, p, 5000, "al", 1000, 1, api.Skewed)
	wantCode(t, "no request", p, 5000, nil, api.Generic)
	p.Answer(5000, plainFirst.write())
	wantRepeats(t, p, 4)
	// One more than the skew: later and earlier.
	wantProof(t, p, 1001, "al", 1000, 1, api.Repeat)
	wantRepeats(t, p, 3)
	wantNew(t, p, 1000, "al", 990, 1)
	wantProof(t, p, 999, "al", 1000, 1, api.Repeat)
	wantRepeats(t, p, 3)
	wantProof(t, p, 1000, "al", 995, 1, api.Repeat)
	wantNew(t, p, 1000, "al", 1010, 1)
	wantRepeats(t, p, 4)
	wantNew(t, p, 5000, "al", 5000, 1)
	wantRepeats(t, p, 1)
	// What was forgotten is new when the time is near again.
	wantNew(t, p, 1000, "al", 1000, 1)
	wantRepeats(t, p, 1)
}

func TestProofTimes(t *testing.T) {
	for _, skew := range []int{0, 1, 10, api.MaxSkew} {
		far := int64(skew)
		p := newDesk(t, skew, nil)
		wantAdmin(t, p, api.Admin{Kind: api.Add, Name: "tgs", Key: tgsKey}, api.OK)
		for _, c := range []struct {
			now, time int64
			skewed    bool
		}{
			{1000, 1000, false}, {1000, 1000 + far, false}, {1000, 1000 - far, false}, {1000, 1001 + far, true}, {1000, 999 - far, true},
			{0, greatest, true}, {0, least, true}, {-1, greatest, true}, {1, least, true}, {least, greatest, true}, {greatest, least, true},
			{least, least, false}, {least, least + far, false}, {least, least + far + 1, true}, {greatest, greatest - far, false}, {greatest, greatest - 1 - far, true},
		} {
			if c.skewed {
				before := p.State().Repeats
				wantProof(t, p, c.now, "al", c.time, 77, api.Skewed)
				wantRepeats(t, p, before)
				continue
			}
			wantProof(t, p, c.now, "al", c.time, 5, api.ServiceUnknown)
			wantProof(t, p, c.now, "al", c.time, 5, api.Repeat)
			wantProof(t, p, c.now, "al", c.time, least, api.ServiceUnknown)
			wantProof(t, p, c.now, "al", c.time, greatest, api.ServiceUnknown)
			// Far away from there all are forgotten.
			wantProof(t, p, ^c.now, "al", ^c.now, 1, api.ServiceUnknown)
			wantRepeats(t, p, 1)
		}
	}
}
