package warden_test

import (
	"bytes"
	"math"
	"slices"
	"testing"

	"warden/api"
	"warden/warden"
)

const (
	least    = math.MinInt64
	greatest = math.MaxInt64
)

// The keys of the entries that most desks of the tests have.
const (
	tgsKey = 0x8111111111111111
	alKey  = 0x2222222222222222
	webKey = 0x3333333333333333
)

const allMays = api.MayRenew | api.MayForward | api.MayProxy | api.MayPostdate

func textBox(s string) []byte { return makeBox(4, []byte(s)...) }

func keyBox(key uint64) []byte { return makeBox(4, highFirst(key, 8)...) }

// numberBoxes gives numbers one behind the other.
func numberBoxes(numbers ...int64) []byte {
	var out []byte
	for _, v := range numbers {
		out = append(out, makeNumber(v)...)
	}
	return out
}

// firstAsk is what a first request says.
type firstAsk struct {
	client, service                   string
	nonce, from, till, rtime, options int64
	pre                               []byte // what is in the list
}

func (a firstAsk) boxes() [][]byte {
	return [][]byte{
		makeNumber(10), textBox(a.client), textBox(a.service), makeNumber(a.nonce), makeNumber(a.from),
		makeNumber(a.till), makeNumber(a.rtime), makeNumber(a.options), makeList(a.pre),
	}
}

func (a firstAsk) write() []byte { return makeList(a.boxes()...) }

// makePre gives what is in pre's list: a time that is sealed.
func makePre(number int64, key uint64, time int64) []byte {
	return slices.Concat(makeNumber(number), makeBox(4, rawSeal(key, 1, 77, makeNumber(time))...))
}

// nextAsk is what a next request says.
type nextAsk struct {
	ticket, proof              []byte // a box; what was sealed
	service                    string
	nonce, till, rtime, option int64
}

func (a nextAsk) boxes() [][]byte {
	return [][]byte{
		makeNumber(12), a.ticket, makeBox(4, a.proof...), textBox(a.service),
		makeNumber(a.nonce), makeNumber(a.till), makeNumber(a.rtime), makeNumber(a.option),
	}
}

func (a nextAsk) write() []byte { return makeList(a.boxes()...) }

// grant is what is in a ticket.
type grant struct {
	flags                   int64
	session                 uint64
	client                  string
	auth, start, end, renew int64
}

func (g grant) boxes() [][]byte {
	return [][]byte{
		makeNumber(g.flags), keyBox(g.session), textBox(g.client),
		makeNumber(g.auth), makeNumber(g.start), makeNumber(g.end), makeNumber(g.renew),
	}
}

// makeTicket gives the box of a ticket.
func makeTicket(service string, number int64, key, draw uint64, g grant) []byte {
	return sealedTicket(service, number, rawSeal(key, 2, draw, makeList(g.boxes()...)))
}

func sealedTicket(service string, number int64, sealed []byte) []byte {
	return makeList(textBox(service), makeNumber(number), makeBox(4, sealed...))
}

// makeProof gives a proof, sealed.
func makeProof(session uint64, client string, time, count int64) []byte {
	return rawSeal(session, 4, 78, makeList(textBox(client), makeNumber(time), makeNumber(count)))
}

// given is what a reply gives: a ticket for a service, and the part for the client.
type given struct {
	grant
	service    string
	number     int64
	key        uint64
	nonce      int64
	partNumber int64
	partKey    uint64
	draws      [2]uint64
}

func (g given) reply(kind int64, use int) []byte {
	part := makeList(keyBox(g.session), numberBoxes(g.nonce, g.flags, g.auth, g.start, g.end, g.renew), textBox(g.service))
	return makeList(
		makeNumber(kind), textBox(g.client),
		makeTicket(g.service, g.number, g.key, g.draws[0], g.grant),
		makeList(makeNumber(g.partNumber), makeBox(4, rawSeal(g.partKey, use, g.draws[1], part)...)),
	)
}

func (g given) toFirst() []byte { return g.reply(11, 3) }

func (g given) toNext() []byte { return g.reply(13, 5) }

func makeRefusal(now, code int64) []byte { return makeList(numberBoxes(30, now, code)) }

// drawBytes gives n bytes of draws, no two numbers of them the same.
func drawBytes(n int) []byte {
	out := make([]byte, n)
	for i := range out {
		out[i] = byte(0xF0 + 37*i)
	}
	return out
}

// drawn is the draw at a place in drawBytes.
func drawn(at int) (draw uint64) {
	for _, b := range drawBytes(8*at + 8)[8*at:] {
		draw = draw<<8 | uint64(b)
	}
	return draw
}

// drawnFrom fills in three draws, the first of them at a place.
func (g given) drawnFrom(at int) given {
	g.session, g.draws = drawn(at), [2]uint64{drawn(at + 1), drawn(at + 2)}
	return g
}

// deskOf gives a desk with the skew 10 and some entries.
func deskOf(t *testing.T, draws int, entries ...api.Admin) *both {
	t.Helper()
	p := newDesk(t, 10, drawBytes(draws))
	for _, a := range entries {
		if a.Kind == 0 {
			a.Kind = api.Add
		}
		wantAdmin(t, p, a, api.OK)
	}
	return p
}

// usual gives the entries of tgs, al and web, with these flags.
func usual(flags int) []api.Admin {
	return []api.Admin{
		{Name: "tgs", Key: tgsKey, Life: 100, Renew: 500, Flags: flags},
		{Name: "al", Key: alKey, Life: 100, Renew: 500, Flags: flags},
		{Name: "web", Key: webKey, Life: 50, Renew: 400, Flags: flags},
	}
}

func show(box []byte) string {
	shown, _ := warden.Show(box)
	return shown
}

func wantAnswer(t *testing.T, what string, p teller, now int64, request, want []byte) {
	t.Helper()
	if reply := p.Answer(now, request); !bytes.Equal(reply, want) {
		t.Errorf("P7 to P10: %s: Answer(%d, %s) = %s, want %s", what, now, show(request), show(reply), show(want))
	}
}

// wantCode wants a refusal, and that it takes no draws and changes no entry.
func wantCode(t *testing.T, what string, p teller, now int64, request []byte, code int64) {
	t.Helper()
	want := p.State()
	wantAnswer(t, what, p, now, request, makeRefusal(now, code))
	want.Repeats = p.State().Repeats
	wantState(t, p, want)
}

// wantRepeats wants that so many proofs are remembered.
func wantRepeats(t *testing.T, p teller, want int) {
	t.Helper()
	if s := p.State(); s.Repeats != want {
		t.Errorf("P6, P9: %d proofs are remembered, want %d", s.Repeats, want)
	}
}

// The requests and the ticket that most tests begin with: they are granted at the time 1000.
var (
	plainFirst = firstAsk{client: "al", service: "tgs", nonce: 7}
	plainGrant = grant{flags: 32, session: 50, client: "al", auth: 990, start: 995, end: 1100}
)

func plainNext(g grant) nextAsk {
	return nextAsk{ticket: makeTicket("tgs", 1, tgsKey, 5, g), proof: makeProof(g.session, g.client, 1000, 1), service: "web", nonce: 8}
}

// toWeb is what plainNext is given at 1000, but for its flags.
func toWeb(flags int64) given {
	g := given{service: "web", number: 1, key: webKey, nonce: 8, partNumber: 0, partKey: 50}
	g.grant = grant{flags: flags, client: "al", auth: 990, start: 1000, end: 1050}
	return g.drawnFrom(0)
}

func TestExamplesOfRequests(t *testing.T) {
	entry := func(name string, key uint64, life int64) api.Admin {
		return api.Admin{Name: name, Key: key, Life: life, Renew: 500}
	}
	p := deskOf(t, 100, entry("tgs", 1, 100), entry("al", 2, 100))
	first := given{service: "tgs", number: 1, key: 1, nonce: 7, partNumber: 1, partKey: 2, grant: grant{flags: 32, client: "al", auth: 1000, start: 1000, end: 1100}}
	first = first.drawnFrom(0)
	wantAnswer(t, "a first one", p, 1000, plainFirst.write(), first.toFirst())
	wantState(t, p, api.State{Names: []string{"al", "tgs"}, Numbers: []int{1, 1}, Left: 76})
	for _, c := range []struct {
		ask  firstAsk
		code int64
	}{
		{firstAsk{client: "al", service: "x"}, 7},
		{firstAsk{client: "x", service: "y"}, 6},
		{firstAsk{client: "al", service: "tgs", till: 1000}, 11},
		{firstAsk{client: "al", service: "tgs", from: 1011}, 10},
		{firstAsk{client: "al", service: "tgs", options: 16}, 13},
	} {
		wantCode(t, "an example", p, 1000, c.ask.write(), c.code)
	}
	wantAdmin(t, p, api.Admin{Kind: api.Add, Name: "web", Key: 3, Life: 50}, api.OK)
	ticket := makeTicket("tgs", 1, 1, first.draws[0], first.grant)
	ask := nextAsk{ticket: ticket, proof: makeProof(first.session, "al", 1005, 1), service: "web", nonce: 8}
	next := given{service: "web", number: 1, key: 3, nonce: 8, partNumber: 0, partKey: first.session, grant: grant{client: "al", auth: 1000, start: 1005, end: 1055}}
	wantAnswer(t, "a next one", p, 1005, ask.write(), next.drawnFrom(3).toNext())
	wantState(t, p, api.State{Names: []string{"al", "tgs", "web"}, Numbers: []int{1, 1, 1}, Repeats: 1, Left: 52})
	wantCode(t, "once more", p, 1005, ask.write(), 34)
	wantCode(t, "a proof that is too old", p, 1016, ask.write(), 37)
	ask.proof = makeProof(first.session, "al", 1101, 1)
	wantCode(t, "a ticket that is too old", p, 1101, ask.write(), 32)
}

// wantShownPlain wants what is sealed in the last box of a list.
func wantShownPlain(t *testing.T, key uint64, use int, sealed []byte, want string) {
	t.Helper()
	plain, e := warden.Unseal(key, use, sealed)
	if shown := show(plain); shown != want || e != api.OK {
		t.Errorf("P8, P10: what is sealed with the use %d is %s, %d, want %s", use, shown, e, want)
	}
}

func TestRepliesTakenApart(t *testing.T) {
	p := newDesk(t, 10, []byte("sessione"+"ticketdr"+"partdraw"+"SESSIONE"+"TICKETDR"+"PARTDRAW"))
	for _, a := range usual(0) {
		a.Kind = api.Add
		wantAdmin(t, p, a, api.OK)
	}
	wantAdmin(t, p, api.Admin{Kind: api.Rekey, Name: "al", Key: 9}, api.OK)
	r := p.Answer(1000, plainFirst.write())
	want := slices.Concat([]byte{48, 129, 130, 2, 1, 11, 4, 2, 'a', 'l', 48, 60, 4, 3, 't', 'g', 's', 2, 1, 1, 4, 50}, []byte("ticketdr"))
	if !bytes.HasPrefix(r, want) || len(r) != 133 {
		t.Fatalf("P8: the reply has %d bytes and begins with %v, want %v", len(r), r[:min(len(r), len(want))], want)
	}
	wantShownPlain(t, tgsKey, 2, r[22:72], `{32,"73657373696f6e65","616c",1000,1000,1100,0}`)
	if head := slices.Concat([]byte{48, 59, 2, 1, 2, 4, 54}, []byte("partdraw")); !bytes.Equal(r[72:87], head) {
		t.Errorf("P8: the part begins with %v, want %v", r[72:87], head)
	}
	wantShownPlain(t, 9, 3, r[79:], `{"73657373696f6e65",7,32,1000,1000,1100,0,"746773"}`)
	session, _ := warden.Unseal(9, 3, r[79:])
	key := uint64(0)
	for _, b := range session[4:12] {
		key = key<<8 | uint64(b)
	}
	ask := nextAsk{ticket: r[10:72], proof: makeProof(key, "al", 1001, 3), service: "web", nonce: -9}
	r = p.Answer(1001, ask.write())
	want = slices.Concat([]byte{48, 129, 130, 2, 1, 13, 4, 2, 'a', 'l', 48, 60, 4, 3, 'w', 'e', 'b', 2, 1, 1, 4, 50}, []byte("TICKETDR"))
	if !bytes.HasPrefix(r, want) || len(r) != 133 {
		t.Fatalf("P10: the reply has %d bytes and begins with %v, want %v", len(r), r[:min(len(r), len(want))], want)
	}
	wantShownPlain(t, webKey, 2, r[22:72], `{0,"53455353494f4e45","616c",1000,1001,1051,0}`)
	if head := slices.Concat([]byte{48, 59, 2, 1, 0, 4, 54}, []byte("PARTDRAW")); !bytes.Equal(r[72:87], head) {
		t.Errorf("P10: the part begins with %v, want %v", r[72:87], head)
	}
	wantShownPlain(t, key, 5, r[79:], `{"53455353494f4e45",-9,0,1000,1001,1051,0,"776562"}`)
}
