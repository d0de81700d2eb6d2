package warden_test

import (
	"fmt"
	"math/bits"
	"math/rand"
	"slices"
	"strings"
	"testing"

	"warden/api"
)

func TestTimesOfNextTickets(t *testing.T) {
	for i, c := range []struct {
		now, till, rtime, option int64
		old                      grant
		life, renew              [2]int64 // of the client, of the service
		start, end, renewed      int64
	}{
		{1000, 0, 0, 0, grant{start: 995, end: 1100}, [2]int64{90, 80}, [2]int64{0, 0}, 1000, 1080, 0},
		{1000, 0, 0, 0, grant{start: 995, end: 1100}, [2]int64{70, 80}, [2]int64{0, 0}, 1000, 1070, 0},
		{1000, 0, 0, 0, grant{start: 995, end: 1060}, [2]int64{70, 80}, [2]int64{0, 0}, 1000, 1060, 0},
		{1000, 1059, 0, 0, grant{start: 995, end: 1060}, [2]int64{70, 80}, [2]int64{0, 0}, 1000, 1059, 0},
		{1000, 1061, 0, 0, grant{start: 995, end: 1060}, [2]int64{70, 80}, [2]int64{0, 0}, 1000, 1060, 0},
		{1000, 1001, 0, 0, grant{start: 995, end: 1001}, [2]int64{1, 1}, [2]int64{0, 0}, 1000, 1001, 0},
		{1000, 0, 0, 0, grant{start: 1010, end: 1100}, [2]int64{90, 80}, [2]int64{0, 0}, 1000, 1080, 0},
		{1000, 0, 0, 0, grant{start: least, end: greatest, renew: least}, [2]int64{greatest, greatest}, [2]int64{0, 0}, 1000, greatest, 0},
		{-1000, 0, 0, 0, grant{start: least, end: greatest, renew: least}, [2]int64{greatest, greatest}, [2]int64{0, 0}, -1000, greatest - 1000, 0},
		{1000, 0, 0, 4, grant{flags: 4, start: 995, end: 1100, renew: 9000}, [2]int64{90, 80}, [2]int64{300, 200}, 1000, 1080, 1200},
		{1000, 0, 0, 4, grant{flags: 4, start: 995, end: 1100, renew: 9000}, [2]int64{90, 80}, [2]int64{200, 300}, 1000, 1080, 1200},
		{1000, 0, 0, 4, grant{flags: 4, start: 995, end: 1100, renew: 1150}, [2]int64{90, 80}, [2]int64{200, 300}, 1000, 1080, 1150},
		{1000, 0, 1140, 4, grant{flags: 4, start: 995, end: 1100, renew: 1150}, [2]int64{90, 80}, [2]int64{200, 300}, 1000, 1080, 1140},
		{1000, 0, -7, 4, grant{flags: 4, start: 995, end: 1100, renew: 1150}, [2]int64{90, 80}, [2]int64{200, 300}, 1000, 1080, -7},
		{1000, 0, 0, 4, grant{flags: 4, start: 995, end: 1100, renew: 0}, [2]int64{90, 80}, [2]int64{200, 300}, 1000, 1080, 0},
		{1000, 0, 0, 4, grant{flags: 4, start: 995, end: 1100, renew: least}, [2]int64{90, 80}, [2]int64{200, 300}, 1000, 1080, least},
		{1000, 0, 5, 0, grant{flags: 4, start: 995, end: 1100, renew: -5}, [2]int64{90, 80}, [2]int64{200, 300}, 1000, 1080, 0},
		{1000, 0, 0, 4, grant{flags: 4, start: 995, end: 1100, renew: greatest}, [2]int64{90, 80}, [2]int64{greatest, greatest}, 1000, 1080, greatest},
		// Renew: till, rtime and the policies do not matter.
		{1000, 1, 1, 16, grant{flags: 4, start: 950, end: 1010, renew: 1200}, [2]int64{0, 0}, [2]int64{0, 0}, 1000, 1060, 1200},
		{1000, 1, 1, 16, grant{flags: 4, start: 950, end: 1010, renew: 1059}, [2]int64{0, 0}, [2]int64{0, 0}, 1000, 1059, 1059},
		{1000, 0, 0, 16, grant{flags: 4, start: 950, end: 1010, renew: 1001}, [2]int64{0, 0}, [2]int64{0, 0}, 1000, 1001, 1001},
		{1000, 0, 0, 20, grant{flags: 4, start: 950, end: 1000, renew: 1200}, [2]int64{9, 9}, [2]int64{9, 9}, 1000, 1050, 1200},
		{1000, 0, 0, 16, grant{flags: 4, start: 1010, end: 1000, renew: 1200}, [2]int64{9, 9}, [2]int64{9, 9}, 1000, 990, 1200},
		{1000, 0, 0, 16, grant{flags: 4, start: 1010, end: 1010, renew: 1200}, [2]int64{9, 9}, [2]int64{9, 9}, 1000, 1000, 1200},
		{1000, 0, 0, 16, grant{flags: 4, start: least, end: greatest, renew: greatest}, [2]int64{9, 9}, [2]int64{9, 9}, 1000, greatest, greatest},
		{1000, 0, 0, 16, grant{flags: 4, start: -5, end: greatest, renew: greatest}, [2]int64{9, 9}, [2]int64{9, 9}, 1000, greatest, greatest},
		{-1000, 0, 0, 16, grant{flags: 4, start: least, end: greatest, renew: greatest}, [2]int64{9, 9}, [2]int64{9, 9}, -1000, greatest - 1000, greatest},
		{-1000, 0, 0, 16, grant{flags: 4, start: least, end: -1, renew: greatest}, [2]int64{9, 9}, [2]int64{9, 9}, -1000, greatest - 1000, greatest},
		{greatest - 1, 0, 0, 16, grant{flags: 4, start: 0, end: greatest, renew: greatest}, [2]int64{9, 9}, [2]int64{9, 9}, greatest - 1, greatest, greatest},
		{least, 0, 0, 16, grant{flags: 4, start: least + 10, end: least, renew: 0}, [2]int64{9, 9}, [2]int64{9, 9}, least, least, 0},
		// Validate: the times of the old one.
		{1000, 1, 1, 32, grant{flags: 16, start: 1000, end: 1000, renew: -3}, [2]int64{0, 0}, [2]int64{0, 0}, 1000, 1000, -3},
		{1000, 0, 0, 32, grant{flags: 16, start: 999, end: 4000, renew: 1}, [2]int64{9, 9}, [2]int64{9, 9}, 999, 4000, 1},
		{1000, 0, 0, 32, grant{flags: 16, start: least, end: greatest, renew: least}, [2]int64{9, 9}, [2]int64{9, 9}, least, greatest, least},
		{greatest, 0, 0, 32, grant{flags: 16, start: greatest, end: greatest, renew: 0}, [2]int64{9, 9}, [2]int64{9, 9}, greatest, greatest, 0},
		{least, 0, 0, 32, grant{flags: 16, start: least, end: least, renew: 0}, [2]int64{9, 9}, [2]int64{9, 9}, least, least, 0},
	} {
		p := deskOf(t, 24,
			api.Admin{Name: "tgs", Key: tgsKey},
			api.Admin{Name: "al", Key: alKey, Life: c.life[0], Renew: c.renew[0], Flags: allMays},
			api.Admin{Name: "web", Key: webKey, Life: c.life[1], Renew: c.renew[1], Flags: allMays})
		old := c.old
		old.session, old.client, old.auth = 50, "al", -77
		ask := plainNext(old)
		ask.proof, ask.till, ask.rtime, ask.option = makeProof(50, "al", c.now, 1), c.till, c.rtime, c.option
		want := toWeb(old.flags &^ 16 & (c.option | c.option>>2))
		want.auth, want.start, want.end, want.renew = -77, c.start, c.end, c.renewed
		wantAnswer(t, fmt.Sprint("times ", i), p, c.now, ask.write(), want.toNext())
		wantState(t, p, api.State{Names: []string{"al", "tgs", "web"}, Numbers: []int{1, 1, 1}, Repeats: 1})
	}
}

func TestNextTicketsThatMayNotBeYetOrAnyMore(t *testing.T) {
	for i, c := range []struct {
		now, till, option int64
		old               grant
		code              int64
	}{
		{1000, 0, 0, grant{start: 1011, end: 1100}, api.TicketNotYet},
		{1000, 0, 0, grant{start: greatest, end: least}, api.TicketNotYet},
		{least, 0, 0, grant{start: least + 11, end: greatest}, api.TicketNotYet},
		{least, 0, 0, grant{start: greatest, end: greatest}, api.TicketNotYet},
		{greatest - 11, 0, 0, grant{start: greatest, end: greatest}, api.TicketNotYet},
		{greatest - 10, 0, 16, grant{start: greatest, end: greatest}, api.BadOption},
		{greatest, 0, 0, grant{start: greatest, end: greatest}, api.NeverValid},
		{1000, 0, 0, grant{flags: 16, start: 1000, end: 1100}, api.TicketNotYet},
		{1000, 0, 16, grant{flags: 20, start: 1000, end: 1100, renew: 2000}, api.TicketNotYet},
		{1000, 0, 32, grant{flags: 16, start: 1011, end: 1100}, api.TicketNotYet},
		{1000, 0, 32, grant{flags: 16, start: 1010, end: 1100}, api.TicketNotYet},
		{1000, 0, 32, grant{flags: 16, start: 1001, end: 1100}, api.TicketNotYet},
		{1000, 0, 32, grant{flags: 16, start: 900, end: 999}, api.TicketExpired},
		{1000, 0, 0, grant{start: 900, end: 999}, api.TicketExpired},
		{1000, 0, 16, grant{flags: 4, start: 900, end: 999, renew: 2000}, api.TicketExpired},
		{1000, 0, 0, grant{start: 900, end: least}, api.TicketExpired},
		{greatest, 0, 0, grant{start: 900, end: greatest - 1}, api.TicketExpired},
		{1000, 0, 0, grant{start: 900, end: 1000}, api.NeverValid},
		{1000, 1000, 0, grant{start: 900, end: 1100}, api.NeverValid},
		{1000, -1, 0, grant{start: 900, end: 1100}, api.NeverValid},
		{1000, least, 0, grant{start: 900, end: 1100}, api.NeverValid},
		{1000, 0, 16, grant{flags: 4, start: 900, end: 1100, renew: 1000}, api.TicketExpired},
		{1000, 0, 16, grant{flags: 4, start: 900, end: 1100, renew: 999}, api.TicketExpired},
		{1000, 0, 16, grant{flags: 4, start: 900, end: 1100, renew: 0}, api.TicketExpired},
		{1000, 0, 16, grant{flags: 4, start: 900, end: 1100, renew: least}, api.TicketExpired},
		{greatest, 0, 16, grant{flags: 4, start: 900, end: greatest, renew: greatest}, api.TicketExpired},
	} {
		old := c.old
		old.session, old.client = 50, "al"
		ask := plainNext(old)
		ask.proof, ask.till, ask.option = makeProof(50, "al", c.now, 1), c.till, c.option
		p := deskOf(t, 24, usual(allMays)...)
		wantCode(t, fmt.Sprint("times ", i), p, c.now, ask.write(), c.code)
		wantRepeats(t, p, 1)
	}
	for i := range 2 {
		entries := usual(0)
		entries[1+i].Life = 0
		wantCode(t, "no Life", deskOf(t, 24, entries...), 1000, plainNext(plainGrant).write(), api.NeverValid)
	}
}

// together tells whether the options may be set at a ticket of these flags, as P9 says it.
func together(options, flags int64) bool {
	has := func(set, bit int64) bool { return set&bit != 0 }
	return options >= 0 && options < 256 && !has(options, api.Postdated) &&
		bits.OnesCount64(uint64(options&(16|32|64|128))) <= 1 &&
		!(has(options, api.Validate) && has(options, 1|2|4|16|64|128)) &&
		!(has(options, api.Renew) && !has(flags, 4)) &&
		!(has(options, api.Forwarded) && !has(flags, 1)) &&
		!(has(options, api.Proxied) && !has(flags, 2)) &&
		!(has(options, api.Validate) && !has(flags, 16))
}

// nextFlags gives the flags of a new ticket, where all mays are set, as P10 says it.
func nextFlags(options, flags int64) int64 {
	switch {
	case options&api.Validate != 0:
		return flags - flags&16
	case options&api.Renew != 0:
		return flags
	}
	return flags&(64|128|256) | flags&options&7 | options&(64|128)<<1
}

// wantOptions wants what becomes of options, at a ticket of these flags.
func wantOptions(t *testing.T, options, flags int64) {
	t.Helper()
	old := plainGrant
	old.flags, old.renew = flags, 1300
	ask := plainNext(old)
	ask.option = options
	what := fmt.Sprintf("options %b, flags %b", options, flags)
	p := deskOf(t, 24, usual(allMays)...)
	switch {
	case flags&16 != 0 && options&32 == 0:
		wantCode(t, what, p, 1000, ask.write(), api.TicketNotYet)
		return
	case !together(options, flags):
		wantCode(t, what, p, 1000, ask.write(), api.BadOption)
		return
	}
	want := toWeb(nextFlags(options, flags))
	switch {
	case options&32 != 0:
		want.start, want.end, want.renew = 995, 1100, 1300
	case options&16 != 0:
		want.end, want.renew = 1105, 1300
	case want.flags&4 != 0:
		want.renew = 1300
	}
	wantAnswer(t, what, p, 1000, ask.write(), want.toNext())
}

func TestOptionsOfNextRequests(t *testing.T) {
	for options := range int64(256) {
		for _, flags := range []int64{0, 1, 2, 4, 7, 16, 17, 18, 20, 23, 8 | 32, 64, 128, 256, 511 - 16, 511} {
			wantOptions(t, options, flags)
		}
	}
	for bit := range 64 {
		for _, flags := range []int64{0, 7, 16, 23, 495} {
			wantOptions(t, 1<<bit, flags)
			wantOptions(t, 1<<bit|1, flags)
			wantOptions(t, 1<<bit|16, flags)
			wantOptions(t, 1<<bit|32, flags)
		}
	}
	for _, options := range []int64{-1, -256, least, greatest, -1 &^ 255} {
		wantOptions(t, options, 7)
	}
}

func TestFlagsOfAnyKindInTickets(t *testing.T) {
	for bit := range 64 {
		for _, options := range []int64{0, 7, 16, 32, 64, 128, 65, 131} {
			wantOptions(t, options, 1<<bit)
			wantOptions(t, options, 1<<bit|7)
			wantOptions(t, options, 1<<bit|16)
			wantOptions(t, options, ^(1 << bit))
		}
	}
	for _, flags := range []int64{least, greatest, -1, -17, least | 20} {
		for _, options := range []int64{0, 7, 16, 32, 64, 128} {
			wantOptions(t, options, flags)
		}
	}
}

func TestWhatClientAndServiceMay(t *testing.T) {
	mays := map[int64]int{1: api.MayForward, 2: api.MayProxy, 4: api.MayRenew}
	for options := range int64(8) {
		for flags := range 64 {
			client, service := flags%8*2, flags/8*2
			entries := usual(0)
			entries[0].Flags = allMays * (flags % 2)
			entries[1].Flags, entries[2].Flags = client, service
			old := plainGrant
			old.flags, old.renew = 7, 1300
			ask := plainNext(old)
			ask.option = options
			want := toWeb(0)
			for option, may := range mays {
				if options&option != 0 && client&may != 0 && service&may != 0 {
					want.flags |= option
				}
			}
			want.renew = want.flags / 4 * 1300
			what := fmt.Sprintf("options %d, flags %d and %d", options, client, service)
			wantAnswer(t, what, deskOf(t, 24, entries...), 1000, ask.write(), want.toNext())
		}
	}
}

// The four ways, each allowed and not.
func TestWays(t *testing.T) {
	for _, c := range []struct{ option, needed int64 }{{api.Renew, api.Renewable}, {api.Validate, api.Invalid}, {api.Forwarded, api.Forwardable}, {api.Proxied, api.Proxiable}} {
		wantOptions(t, c.option, c.needed)
		if c.option != api.Validate {
			wantOptions(t, c.option, 7&^c.needed)
			wantOptions(t, c.option, 495&^c.needed)
		} else {
			wantOptions(t, c.option, 495)
		}
	}
	// A ticket for another service than tgs is shown to renew or validate it, and for nothing else.
	for _, c := range []struct {
		of, service string
		option      int64
		ok          bool
	}{
		{"web", "web", 16, true}, {"web", "web", 32, true}, {"web", "web", 0, false}, {"web", "web", 64, false}, {"web", "web", 128, false}, {"web", "web", 15, false},
		{"web", "tgs", 16, false}, {"web", "tgs", 32, false}, {"web", "al", 16, false}, {"tgs", "web", 16, true}, {"tgs", "web", 32, true}, {"tgs", "tgs", 16, true}, {"tgs", "tgs", 0, true},
		{"web", "we", 16, false}, {"web", "webb", 32, false},
	} {
		old := grant{flags: 4, session: 50, client: "al", auth: 990, start: 990, end: 1040, renew: 1045}
		if c.option&32 != 0 {
			old.flags = 20
		}
		keys := map[string]uint64{"tgs": tgsKey, "web": webKey, "al": alKey}
		ask := plainNext(old)
		ask.ticket, ask.service, ask.option = makeTicket(c.of, 1, keys[c.of], 9, old), c.service, c.option
		p := deskOf(t, 24, usual(0)...)
		what := fmt.Sprintf("%+v", c)
		if !c.ok {
			wantCode(t, what, p, 1000, ask.write(), api.BadMatch)
			wantRepeats(t, p, 0)
			continue
		}
		want := toWeb(4)
		want.service, want.key = c.service, keys[c.service]
		want.end, want.renew = 1045, 1045
		switch c.option {
		case 32:
			want.start, want.end = 990, 1040
		case 0:
			want.flags, want.end, want.renew = 0, 1040, 0
		}
		wantAnswer(t, what, p, 1000, ask.write(), want.toNext())
	}
	// Every one of the bits lets a ticket of the request's own service through to the later checks.
	for _, option := range []int64{-1, 48, 16 | 256, 32 | 8} {
		ask := plainNext(plainGrant)
		ask.ticket, ask.option = makeTicket("web", 1, webKey, 9, plainGrant), option
		wantCode(t, "options with Renew or Validate", deskOf(t, 24, usual(0)...), 1000, ask.write(), api.BadOption)
	}
}

func TestKeysOfTickets(t *testing.T) {
	rekeys := []api.Admin{{Kind: api.Rekey, Name: "tgs", Key: 5}, {Kind: api.Rekey, Name: "tgs", Key: 6}, {Kind: api.Rekey, Name: "tgs", Key: 7}}
	keys := []uint64{0, tgsKey, 5, 6, 7}
	for newest := 1; newest <= 4; newest++ {
		for _, number := range []int64{least, -1, 0, 1, 2, 3, 4, 5, 1 << 32, 1<<32 + 1, greatest} {
			for _, key := range keys {
				p := deskOf(t, 24, append(usual(0), rekeys[:newest-1]...)...)
				ask := plainNext(plainGrant)
				ask.ticket = makeTicket("tgs", number, key, 9, plainGrant)
				what := fmt.Sprintf("a ticket of the number %d and the key %d at the number %d", number, key, newest)
				switch {
				case number < 1 || number > int64(newest) || number < int64(newest)-1:
					wantCode(t, what, p, 1000, ask.write(), api.BadKey)
				case keys[number] != key:
					wantCode(t, what, p, 1000, ask.write(), api.BadSeal)
				default:
					wantAnswer(t, what, p, 1000, ask.write(), toWeb(0).toNext())
				}
			}
		}
	}
	// The new ticket has the newest key of its service; an entry that was deleted and added has its new key alone.
	p := deskOf(t, 24, append(usual(0), api.Admin{Kind: api.Rekey, Name: "web", Key: 77}, api.Admin{Kind: api.Rekey, Name: "tgs", Key: 6},
		api.Admin{Kind: api.Delete, Name: "tgs"}, api.Admin{Name: "tgs", Key: 8})...)
	wantCode(t, "a ticket of the deleted entry", p, 1000, plainNext(plainGrant).write(), api.BadSeal)
	ask := plainNext(plainGrant)
	ask.ticket = makeTicket("tgs", 2, 6, 9, plainGrant)
	wantCode(t, "a key number of the deleted entry", p, 1000, ask.write(), api.BadKey)
	ask.ticket = makeTicket("tgs", 1, 8, 9, plainGrant)
	want := toWeb(0)
	want.number, want.key = 2, 77
	wantAnswer(t, "new keys", p, 1000, ask.write(), want.toNext())
}

// spoilt gives what is written of some boxes with one of them gone, twice, or of another kind, and with one more.
func spoilt(boxes [][]byte) map[string][]byte {
	out := map[string][]byte{
		"nothing":        nil,
		"no boxes":       makeList(),
		"no list":        slices.Concat(boxes...),
		"a text":         makeBox(4, slices.Concat(boxes...)...),
		"a list of it":   makeList(makeList(boxes...)),
		"a byte behind":  append(makeList(boxes...), 0),
		"a box behind":   append(makeList(boxes...), 2, 1, 0),
		"a byte in it":   makeList(append(slices.Clone(boxes), []byte{0})...),
		"a number more":  makeList(append(slices.Clone(boxes), makeNumber(0))...),
		"a text more":    makeList(append(slices.Clone(boxes), textBox(""))...),
		"a list more":    makeList(append(slices.Clone(boxes), makeList())...),
		"a long length":  longer(makeList(boxes...)),
		"a byte is less": makeList(boxes...)[:len(makeList(boxes...))-1],
	}
	for i, box := range boxes {
		with := func(box ...[]byte) []byte {
			return makeList(slices.Concat(boxes[:i], box, boxes[i+1:])...)
		}
		out[fmt.Sprint("one gone ", i)] = with()
		out[fmt.Sprint("one twice ", i)] = with(box, box)
		out[fmt.Sprint("one longer than needed ", i)] = with(longer(box))
		out[fmt.Sprint("one in a list ", i)] = with(makeList(box))
		out[fmt.Sprint("one of another tag ", i)] = with(append([]byte{box[0] + 1}, box[1:]...))
		switch box[0] {
		case 2:
			out[fmt.Sprint("a text for a number ", i)] = with(append([]byte{4}, box[1:]...))
			out[fmt.Sprint("a number with a byte more ", i)] = with(append([]byte{2, box[1] + 1, byte(int8(box[2]) >> 7)}, box[2:]...))
			out[fmt.Sprint("a number of no bytes ", i)] = with([]byte{2, 0})
			out[fmt.Sprint("a number of nine bytes ", i)] = with(makeBox(2, 1, 2, 3, 4, 5, 6, 7, 8, 9))
		case 4:
			out[fmt.Sprint("a number for a text ", i)] = with(makeNumber(97))
			out[fmt.Sprint("a list for a text ", i)] = with(makeList())
		case 48:
			out[fmt.Sprint("a number for a list ", i)] = with(makeNumber(97))
			out[fmt.Sprint("a text for a list ", i)] = with(textBox(""))
		}
	}
	return out
}

// longer writes a box with a byte more for its length than it needs.
func longer(box []byte) []byte {
	switch box[1] {
	case 129:
		return slices.Concat([]byte{box[0], 130, 0}, box[2:])
	case 130:
		return slices.Concat([]byte{box[0], 131, 0}, box[2:])
	}
	return slices.Concat([]byte{box[0], 129}, box[1:])
}

// Names that are none.
var noNames = []string{"", "A", "aL", "al ", "a-l", "a_l", "a.b", "al\x00", "\xff", "é", "`", "{", ":", strings.Repeat("a", 17), strings.Repeat("a", 40)}

func TestTicketsThatDoNotOpen(t *testing.T) {
	right := makeList(plainGrant.boxes()...)
	for what, sealed := range map[string][]byte{
		"another key":    rawSeal(alKey, 2, 5, right),
		"another use":    rawSeal(tgsKey, 1, 5, right),
		"the use 5":      rawSeal(tgsKey, 5, 5, right),
		"no bytes":       nil,
		"15 bytes":       make([]byte, 15),
		"a byte less":    rawSeal(tgsKey, 2, 5, right)[1:],
		"a byte more":    append(rawSeal(tgsKey, 2, 5, right), 0),
		"above MaxPlain": rawSeal(tgsKey, 2, 5, make([]byte, 201)),
	} {
		ask := plainNext(plainGrant)
		ask.ticket, ask.proof, ask.service = sealedTicket("tgs", 1, sealed), nil, "x"
		wantCode(t, "a ticket of "+what, deskOf(t, 24, usual(0)...), 1000, ask.write(), api.BadSeal)
	}
	wantNoGrant := func(what string, plain []byte) {
		t.Helper()
		ask := plainNext(plainGrant)
		ask.ticket, ask.service = sealedTicket("tgs", 1, rawSeal(tgsKey, 2, 5, plain)), "x"
		p := deskOf(t, 24, usual(0)...)
		wantCode(t, "a ticket with "+what, p, 1000, ask.write(), api.BadSeal)
		wantRepeats(t, p, 0)
	}
	for what, plain := range spoilt(plainGrant.boxes()) {
		wantNoGrant(what, plain)
	}
	for _, name := range noNames {
		g := plainGrant
		g.client = name
		wantNoGrant("the client "+name, makeList(g.boxes()...))
	}
	for _, n := range []int{1, 7, 9, 16} {
		// The proof would open with the key that these bytes, too few or too many, could be taken for.
		boxes := plainGrant.boxes()
		boxes[1] = makeBox(4, highFirst(50, n)...)
		wantNoGrant(fmt.Sprint("a session of bytes: ", n), makeList(boxes...))
	}
}

func TestProofsThatDoNotOpen(t *testing.T) {
	boxes := [][]byte{textBox("al"), makeNumber(1000), makeNumber(1)}
	wantNoProof := func(what string, sealed []byte) {
		t.Helper()
		ask := plainNext(plainGrant)
		ask.proof, ask.service = sealed, "x"
		p := deskOf(t, 24, usual(0)...)
		wantCode(t, "a proof of "+what, p, 1000, ask.write(), api.BadSeal)
		wantRepeats(t, p, 0)
	}
	right := makeList(boxes...)
	wantNoProof("another key", rawSeal(51, 4, 5, right))
	wantNoProof("the ticket's key", rawSeal(tgsKey, 4, 5, right))
	wantNoProof("another use", rawSeal(50, 5, 5, right))
	wantNoProof("no bytes", nil)
	wantNoProof("15 bytes", make([]byte, 15))
	wantNoProof("a byte more", append(rawSeal(50, 4, 5, right), 0))
	for what, plain := range spoilt(boxes) {
		wantNoProof(what, rawSeal(50, 4, 5, plain))
	}
	for _, name := range noNames {
		wantNoProof("the client "+name, makeProof(50, name, 1000, 1))
	}
}

func TestTheProofIsOfTheTicketsClient(t *testing.T) {
	for _, name := range []string{"bo", "a", "al/", "all", "tgs", "web"} {
		ask := plainNext(plainGrant)
		ask.proof, ask.service = makeProof(50, name, 5, 1), "x"
		p := deskOf(t, 24, usual(0)...)
		wantCode(t, "a proof of another client", p, 1000, ask.write(), api.BadMatch)
		wantRepeats(t, p, 0)
	}
}

func TestExpireAndOffOfNextRequests(t *testing.T) {
	wantExpire(t, 1, api.Expired, plainNext(plainGrant).write(), toWeb(0).toNext())
	wantExpire(t, 2, api.ServiceExpired, plainNext(plainGrant).write(), toWeb(0).toNext())
	for i := range 2 {
		entries := usual(0)
		entries[1+i].Flags = api.Off
		wantCode(t, "an entry that is off", deskOf(t, 24, entries...), 1000, plainNext(plainGrant).write(), api.Policy)
	}
	// What tgs may is of no matter to a ticket for another service; nor is MustPre to a next request.
	entries := usual(api.MustPre)
	entries[0].Expire, entries[0].Flags, entries[0].Life = 5, api.Off, 0
	wantAnswer(t, "tgs is off", deskOf(t, 24, entries...), 1000, plainNext(plainGrant).write(), toWeb(0).toNext())
}

func TestDrawsOfNextRequests(t *testing.T) {
	for _, n := range []int{0, 1, 8, 16, 23} {
		p := deskOf(t, n, usual(0)...)
		wantCode(t, fmt.Sprint(n, " bytes of draws"), p, 1000, plainNext(plainGrant).write(), api.Generic)
		wantRepeats(t, p, 1)
	}
	for _, n := range []int{24, 25, 47, 48, 49} {
		p := deskOf(t, n, usual(0)...)
		ask := plainNext(plainGrant)
		for i := range n / 24 {
			ask.proof = makeProof(50, "al", 1000, int64(i))
			wantAnswer(t, fmt.Sprint(n, " bytes of draws"), p, 1000, ask.write(), toWeb(0).drawnFrom(3*i).toNext())
			wantCode(t, "a repeat", p, 1000, ask.write(), api.Repeat)
		}
		ask.proof = makeProof(50, "al", 1000, 7)
		wantCode(t, "no draws", p, 1000, ask.write(), api.Generic)
		wantState(t, p, api.State{Names: []string{"al", "tgs", "web"}, Numbers: []int{1, 1, 1}, Repeats: n/24 + 1, Left: n % 24})
	}
	for _, option := range []int64{16, 32} {
		old := plainGrant
		old.flags, old.renew = map[int64]int64{16: 4, 32: 16}[option], 1300
		ask := plainNext(old)
		ask.option = option
		wantCode(t, "no draws to renew or validate", deskOf(t, 23, usual(0)...), 1000, ask.write(), api.Generic)
	}
}

func TestLongestNextReply(t *testing.T) {
	long := strings.Repeat("z/0", 5) + "9"
	old := grant{flags: least | 4, session: 1<<64 - 1, client: long, auth: least, start: least, end: greatest, renew: greatest}
	p := deskOf(t, 24, api.Admin{Name: long, Key: 1}, api.Admin{Name: "tgs", Key: 2})
	now := int64(least + 1)
	ask := nextAsk{ticket: makeTicket("tgs", 1, 2, 9, old), proof: makeProof(old.session, long, now+10, least), service: long, nonce: least, till: least, rtime: least, option: 16}
	want := given{service: long, number: 1, key: 1, nonce: least, partKey: old.session}
	want.grant = old
	want.start, want.end = now, 0
	wantAnswer(t, "all that is longest", p, now, ask.write(), want.drawnFrom(0).toNext())
}

// nextScene is a next request and a desk, which faults can be put into.
type nextScene struct {
	of           string // the ticket's service
	number       int64
	key          uint64
	old          grant
	proofKey     uint64
	proofClient  string
	proofTime    int64
	ask          nextAsk
	tgs, al, web api.Admin
	noTgs        bool
	earlier      []int64 // the counts of proofs that were shown
	draws        int
}

func rightNextScene() nextScene {
	entries := usual(allMays)
	return nextScene{
		of: "tgs", number: 1, key: tgsKey, old: plainGrant, proofKey: 50, proofClient: "al", proofTime: 1000,
		ask: plainNext(plainGrant), tgs: entries[0], al: entries[1], web: entries[2], draws: 24,
	}
}

func (s *nextScene) desk(t *testing.T) *both {
	t.Helper()
	p := deskOf(t, s.draws, s.tgs, s.al, s.web)
	for _, count := range s.earlier {
		ask := plainNext(plainGrant)
		ask.proof, ask.service = makeProof(50, s.proofClient, s.proofTime, count), "x"
		if s.proofClient != "al" {
			g := plainGrant
			g.client = s.proofClient
			ask.ticket = makeTicket("tgs", 1, tgsKey, 5, g)
		}
		p.Answer(s.proofTime, ask.write())
	}
	if s.noTgs {
		wantAdmin(t, p, api.Admin{Kind: api.Delete, Name: "tgs"}, api.OK)
	}
	return p
}

func (s *nextScene) request() []byte {
	ask := s.ask
	ask.ticket = makeTicket(s.of, s.number, s.key, 5, s.old)
	ask.proof = makeProof(s.proofKey, s.proofClient, s.proofTime, 1)
	return ask.write()
}

// nextFaults has one fault of every check of a next request, in their order.
var nextFaults = []struct {
	code  int64
	spoil func(s *nextScene)
}{
	{api.BadMatch, func(s *nextScene) { s.of, s.key = "web", webKey; s.ask.option &^= 16 | 32 }},
	{api.ServiceUnknown, func(s *nextScene) { s.noTgs = true }},
	{api.BadKey, func(s *nextScene) { s.number = 2 }},
	{api.BadSeal, func(s *nextScene) { s.key = 5 }},
	{api.BadSeal, func(s *nextScene) { s.proofKey = 5 }},
	{api.BadMatch, func(s *nextScene) { s.proofClient = "web" }},
	{api.Skewed, func(s *nextScene) { s.proofTime = 1011 }},
	{api.Repeat, func(s *nextScene) { s.earlier = append([]int64{1}, s.earlier[:min(len(s.earlier), 7)]...) }},
	{api.Generic, func(s *nextScene) { s.earlier = []int64{2, 3, 4, 5, 6, 7, 8, 9} }},
	{api.TicketNotYet, func(s *nextScene) { s.old.flags |= api.Invalid; s.ask.option &^= api.Validate }},
	{api.TicketNotYet, func(s *nextScene) { s.old.start = 1011 }},
	{api.TicketExpired, func(s *nextScene) { s.old.end = 999 }},
	{api.ServiceUnknown, func(s *nextScene) { s.ask.service = "x" }},
	{api.Unknown, func(s *nextScene) { s.old.client, s.proofClient = "bo", "bo" }},
	{api.ServiceExpired, func(s *nextScene) { s.web.Expire = 1000 }},
	{api.Expired, func(s *nextScene) { s.al.Expire = 1000 }},
	{api.Policy, func(s *nextScene) { s.web.Flags |= api.Off }},
	{api.Policy, func(s *nextScene) { s.al.Flags |= api.Off }},
	{api.BadOption, func(s *nextScene) { s.ask.option |= api.Postdated }},
	{api.BadOption, func(s *nextScene) { s.ask.option |= api.Proxied; s.old.flags &^= api.Proxiable }},
	{api.NeverValid, func(s *nextScene) { s.ask.till = 1000 }},
	{api.Generic, func(s *nextScene) { s.draws = 23 }},
}

func TestOrderOfNextChecks(t *testing.T) {
	r := rand.New(rand.NewSource(37))
	try := func(chosen int) {
		t.Helper()
		scene := rightNextScene()
		code, first := int64(0), 0
		// The one named first comes last, lest one behind it undo it.
		for i, fault := range slices.Backward(nextFaults) {
			if chosen>>i&1 == 1 {
				fault.spoil(&scene)
				code, first = fault.code, i
			}
		}
		p := scene.desk(t)
		before := p.State().Repeats
		wantCode(t, fmt.Sprintf("faults %b", chosen), p, 1000, scene.request(), code)
		// A proof is remembered whatever comes of the request, and not ahead of that.
		if first > 8 {
			before++
		}
		wantRepeats(t, p, before)
	}
	for i := range nextFaults {
		for j := range i + 1 {
			for k := range j + 1 {
				try(1<<i | 1<<j | 1<<k)
			}
		}
	}
	for range 3000 {
		try(1 + r.Intn(1<<len(nextFaults)-1))
	}
	scene := rightNextScene()
	wantAnswer(t, "no fault", scene.desk(t), 1000, scene.request(), toWeb(0).toNext())
}
