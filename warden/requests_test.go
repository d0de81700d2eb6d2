package warden_test

import (
	"bytes"
	"fmt"
	"math/rand"
	"slices"
	"testing"

	"warden/api"
	"warden/warden"
)

// wantNoRequest wants the refusal of what is neither a first nor a next request, and that nothing changes.
func wantNoRequest(t *testing.T, what string, p teller, request []byte) {
	t.Helper()
	before := p.State()
	wantAnswer(t, what, p, 1000, request, makeRefusal(1000, api.Generic))
	wantState(t, p, before)
}

// rightRequests gives a first request, one with pre, and a next one, as their boxes: all are granted at 1000.
func rightRequests() map[string][][]byte {
	withPre := plainFirst
	withPre.pre = makePre(1, alKey, 1000)
	return map[string][][]byte{
		"first": plainFirst.boxes(),
		"pre":   withPre.boxes(),
		"next":  plainNext(plainGrant).boxes(),
	}
}

// boxAt gives boxes with another one at a place.
func boxAt(boxes [][]byte, at int, box []byte) []byte {
	boxes = slices.Clone(boxes)
	boxes[at] = box
	return makeList(boxes...)
}

func TestRequestsSpoiltInOneBox(t *testing.T) {
	p := deskOf(t, 240, usual(0)...)
	for kind, boxes := range rightRequests() {
		for what, request := range spoilt(boxes) {
			wantNoRequest(t, kind+" with "+what, p, request)
		}
		for _, number := range []int64{-10, 0, 9, 11, 13, 30, 138, 140, 1<<32 + 10, 1<<32 + 12, 256 + 10, 256 + 12, least, greatest, 22 - int64(boxes[0][2])} {
			wantNoRequest(t, fmt.Sprintf("%s with the number %d", kind, number), p, boxAt(boxes, 0, makeNumber(number)))
		}
	}
	for kind, boxes := range rightRequests() {
		if reply := p.Answer(1000, makeList(boxes...)); show(reply) == show(makeRefusal(1000, api.Generic)) {
			t.Errorf("P7: the right %s is no request", kind)
		}
	}
}

func TestListsInRequestsSpoiltInOneBox(t *testing.T) {
	p := deskOf(t, 240, usual(0)...)
	requests := rightRequests()
	pre := [][]byte{makeNumber(1), makeBox(4, rawSeal(alKey, 1, 7, makeNumber(1000))...)}
	for what, list := range spoilt(pre) {
		if what == "no boxes" {
			// That is the pre of one who shows nothing.
			continue
		}
		wantNoRequest(t, "pre with "+what, p, boxAt(requests["pre"], 8, list))
	}
	ticket := [][]byte{textBox("tgs"), makeNumber(1), makeBox(4, rawSeal(tgsKey, 2, 5, makeList(plainGrant.boxes()...))...)}
	for what, list := range spoilt(ticket) {
		wantNoRequest(t, "a ticket with "+what, p, boxAt(requests["next"], 1, list))
	}
}

func TestNamesInRequests(t *testing.T) {
	p := deskOf(t, 240, usual(0)...)
	requests := rightRequests()
	for _, name := range noNames {
		wantNoRequest(t, "the client "+name, p, boxAt(requests["first"], 1, textBox(name)))
		wantNoRequest(t, "the service "+name, p, boxAt(requests["first"], 2, textBox(name)))
		wantNoRequest(t, "the next service "+name, p, boxAt(requests["next"], 3, textBox(name)))
		wantNoRequest(t, "the ticket's service "+name, p, boxAt(requests["next"], 1, makeTicket(name, 1, tgsKey, 5, plainGrant)))
	}
	for b := range 256 {
		ask := firstAsk{client: string([]byte{'a', byte(b)}), service: "tgs"}
		switch {
		case b == 'l':
		case 'a' <= b && b <= 'z' || '0' <= b && b <= '9' || b == '/':
			wantCode(t, "a name's byte", p, 1000, ask.write(), api.Unknown)
		default:
			wantNoRequest(t, "a name's wrong byte", p, ask.write())
		}
	}
}

func TestRequestsWithAByteMoreOrLess(t *testing.T) {
	p := deskOf(t, 240, usual(0)...)
	for kind, boxes := range rightRequests() {
		request := makeList(boxes...)
		for at := range request {
			wantNoRequest(t, fmt.Sprintf("%s without byte %d", kind, at), p, slices.Concat(request[:at], request[at+1:]))
			wantNoRequest(t, fmt.Sprintf("%s cut at %d", kind, at), p, request[:at])
			for _, b := range []byte{0, 1, 2, 4, 48, 255, request[at]} {
				wantNoRequest(t, fmt.Sprintf("%s with %d ahead of byte %d", kind, b, at), p, slices.Concat(request[:at], []byte{b}, request[at:]))
			}
		}
		wantNoRequest(t, kind+" with a byte behind it", p, append(bytes.Clone(request), 0))
		wantNoRequest(t, kind+" twice", p, slices.Concat(request, request))
	}
	wantNoRequest(t, "nothing", p, nil)
	wantNoRequest(t, "no bytes", p, []byte{})
	for _, n := range []int{1, 2, 300, 301, 70000, 3000000} {
		wantNoRequest(t, "zeroes", p, make([]byte, n))
		wantNoRequest(t, "bytes of a list's tag", p, bytes.Repeat([]byte{48}, n))
	}
}

// grown gives what write gives of so many bytes that it has n in all.
func grown(t *testing.T, n int, write func(in []byte) []byte) []byte {
	t.Helper()
	for size := range n {
		if request := write(make([]byte, size)); len(request) == n {
			return request
		}
	}
	t.Fatalf("no request of %d bytes", n)
	return nil
}

func TestRequestsAtMaxRequest(t *testing.T) {
	for _, n := range []int{api.MaxRequest - 1, api.MaxRequest, api.MaxRequest + 1, api.MaxRequest + 2} {
		p := deskOf(t, 24, usual(0)...)
		first := grown(t, n, func(in []byte) []byte {
			ask := plainFirst
			ask.pre = slices.Concat(makeNumber(1), makeBox(4, in...))
			return ask.write()
		})
		next := grown(t, n, func(in []byte) []byte {
			ask := plainNext(plainGrant)
			ask.proof = in
			return ask.write()
		})
		if n > api.MaxRequest {
			wantNoRequest(t, "a long first request", p, first)
			wantNoRequest(t, "a long next request", p, next)
			continue
		}
		wantCode(t, "the longest first request", p, 1000, first, api.PreFailed)
		wantCode(t, "the longest next request", p, 1000, next, api.BadSeal)
	}
}

func TestTimesOfRefusals(t *testing.T) {
	for _, now := range []int64{least, least + 1, -129, -128, -1, 0, 127, 128, 1 << 40, greatest - 1, greatest} {
		p := deskOf(t, 24, usual(0)...)
		wantAnswer(t, "no request", p, now, nil, makeRefusal(now, api.Generic))
		wantAnswer(t, "an unknown client", p, now, firstAsk{client: "x", service: "y"}.write(), makeRefusal(now, api.Unknown))
	}
	if r := newDesk(t, 10, nil).Answer(1000, nil); !bytes.Equal(r, []byte{48, 10, 2, 1, 30, 2, 2, 3, 232, 2, 1, 60}) {
		t.Errorf("P7: a refusal is %v", r)
	}
}

func TestDesksWithoutABook(t *testing.T) {
	for _, p := range []teller{noDesk(t), zeroDesk(t), newDesk(t, 10, nil)} {
		wantAnswer(t, "nothing", p, 5, nil, makeRefusal(5, api.Generic))
		wantAnswer(t, "a first one", p, 5, plainFirst.write(), makeRefusal(5, api.Unknown))
		wantAnswer(t, "a next one", p, 5, plainNext(plainGrant).write(), makeRefusal(5, api.ServiceUnknown))
		wantState(t, p, api.State{})
	}
	// A desk that was not made by a call has the skew 0, and no draws.
	zero := zeroDesk(t)
	for _, a := range usual(0) {
		a.Kind = api.Add
		wantAdmin(t, zero, a, api.OK)
	}
	ask := plainFirst
	ask.from = 1001
	wantCode(t, "the skew 0", zero, 1000, ask.write(), api.CannotPostdate)
	wantCode(t, "no draws", zero, 1000, plainFirst.write(), api.Generic)
	wantCode(t, "no draws", zero, 1000, plainNext(plainGrant).write(), api.Generic)
	wantRepeats(t, zero, 1)
}

func TestAnswerOfAnyBytes(t *testing.T) {
	r := rand.New(rand.NewSource(41))
	p := deskOf(t, 24000, usual(allMays)...)
	times := []int64{least, -1, 0, 1, 1000, greatest}
	var requests [][]byte
	for _, boxes := range rightRequests() {
		requests = append(requests, makeList(boxes...))
	}
	for range 30000 {
		request := randomBytes(r, r.Intn(320))
		if r.Intn(4) > 0 {
			request = bytes.Clone(requests[r.Intn(len(requests))])
			for range r.Intn(4) {
				request[r.Intn(len(request))] = byte(r.Intn(256))
			}
		}
		reply := p.Answer(times[r.Intn(len(times))], request)
		if _, e := warden.Show(reply); e != api.OK {
			t.Fatalf("P1: Answer(.., %v) = %v", request, reply)
		}
	}
}
