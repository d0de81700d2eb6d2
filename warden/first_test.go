package warden_test

import (
	"fmt"
	"math/rand"
	"slices"
	"strings"
	"testing"

	"warden/api"
)

// toTgs is what plainFirst is given.
func toTgs(g grant) given {
	out := given{service: "tgs", number: 1, key: tgsKey, nonce: 7, partNumber: 1, partKey: alKey}
	out.grant = g
	return out.drawnFrom(0)
}

func TestTimesOfFirstTickets(t *testing.T) {
	for i, c := range []struct {
		now, from, till, rtime, options int64
		life, renew                     [2]int64 // of the client, of the service
		start, end, renewed             int64
	}{
		{1000, 0, 0, 0, 0, [2]int64{100, 90}, [2]int64{0, 0}, 1000, 1090, 0},
		{1000, 0, 0, 0, 0, [2]int64{80, 90}, [2]int64{0, 0}, 1000, 1080, 0},
		{1000, 0, 1079, 0, 0, [2]int64{80, 90}, [2]int64{0, 0}, 1000, 1079, 0},
		{1000, 0, 1081, 0, 0, [2]int64{80, 90}, [2]int64{0, 0}, 1000, 1080, 0},
		{1000, 0, 1001, 0, 0, [2]int64{1, 1}, [2]int64{0, 0}, 1000, 1001, 0},
		{1000, 1010, 0, 0, 0, [2]int64{100, 100}, [2]int64{0, 0}, 1000, 1100, 0},
		{1000, least, greatest, 0, 0, [2]int64{100, 100}, [2]int64{0, 0}, 1000, 1100, 0},
		{1000, 0, 0, 0, 4, [2]int64{100, 100}, [2]int64{300, 200}, 1000, 1100, 1200},
		{1000, 0, 0, 0, 4, [2]int64{100, 100}, [2]int64{200, 300}, 1000, 1100, 1200},
		{1000, 0, 0, 1199, 4, [2]int64{100, 100}, [2]int64{200, 300}, 1000, 1100, 1199},
		{1000, 0, 0, 1201, 4, [2]int64{100, 100}, [2]int64{200, 300}, 1000, 1100, 1200},
		{1000, 0, 0, -1, 4, [2]int64{100, 100}, [2]int64{200, 300}, 1000, 1100, -1},
		{1000, 0, 0, least, 4, [2]int64{100, 100}, [2]int64{200, 300}, 1000, 1100, least},
		{1000, 0, 0, greatest, 4, [2]int64{100, 100}, [2]int64{0, 300}, 1000, 1100, 1000},
		{1000, 0, 0, 1150, 0, [2]int64{100, 100}, [2]int64{200, 300}, 1000, 1100, 0},
		{1000, 5000, 0, 0, 12, [2]int64{100, 90}, [2]int64{200, 300}, 5000, 5090, 5200},
		{1000, -50, 1, 0, 8, [2]int64{100, 90}, [2]int64{0, 0}, -50, 1, 0},
		{1000, 0, 0, 0, 8, [2]int64{100, 90}, [2]int64{0, 0}, 0, 90, 0},
		{1000, -50, 0, 0, 8, [2]int64{100, 90}, [2]int64{0, 0}, -50, 40, 0},
		{1000, greatest - 1, 0, 0, 12, [2]int64{100, 90}, [2]int64{5, 6}, greatest - 1, greatest, greatest},
		{1000, least, 0, 0, 12, [2]int64{100, 90}, [2]int64{5, 6}, least, least + 90, least + 5},
		{1000, least, 0, 0, 12, [2]int64{greatest, greatest}, [2]int64{greatest, greatest}, least, -1, -1},
		{1000, 0, 0, 0, 4, [2]int64{greatest, greatest}, [2]int64{greatest, greatest}, 1000, greatest, greatest},
		{1000, 0, 0, 0, 4, [2]int64{greatest, greatest - 1001}, [2]int64{greatest - 1001, greatest}, 1000, greatest - 1, greatest - 1},
		{greatest - 1, greatest, 0, 0, 4, [2]int64{1, 100}, [2]int64{1, 100}, greatest - 1, greatest, greatest},
		{greatest - 5, greatest, 0, 0, 0, [2]int64{100, 100}, [2]int64{0, 0}, greatest - 5, greatest, 0},
		{least, least + 10, 0, 0, 4, [2]int64{100, 100}, [2]int64{0, 0}, least, least + 100, least},
		{least, least, least + 1, least + 1, 4, [2]int64{100, 100}, [2]int64{2, 2}, least, least + 1, least + 1},
		{0, 0, 0, 0, 0, [2]int64{100, 100}, [2]int64{0, 0}, 0, 100, 0},
		{-1, 0, 0, 0, 0, [2]int64{1, 2}, [2]int64{0, 0}, -1, 0, 0},
	} {
		flags := 32 | c.options
		if c.options&8 != 0 {
			flags |= 16
		}
		p := deskOf(t, 24,
			api.Admin{Name: "al", Key: alKey, Life: c.life[0], Renew: c.renew[0], Flags: allMays},
			api.Admin{Name: "tgs", Key: tgsKey, Life: c.life[1], Renew: c.renew[1], Flags: allMays})
		ask := firstAsk{"al", "tgs", 7, c.from, c.till, c.rtime, c.options, nil}
		g := grant{flags: flags, client: "al", auth: c.now, start: c.start, end: c.end, renew: c.renewed}
		wantAnswer(t, fmt.Sprint("times ", i), p, c.now, ask.write(), toTgs(g).toFirst())
		wantState(t, p, api.State{Names: []string{"al", "tgs"}, Numbers: []int{1, 1}})
	}
}

func TestFirstTicketsThatWouldNeverBeValid(t *testing.T) {
	for _, c := range []struct {
		now, from, till, options int64
		life                     [2]int64
	}{
		{1000, 0, 1000, 0, [2]int64{100, 100}},
		{1000, 0, 999, 0, [2]int64{100, 100}},
		{1000, 0, -1, 0, [2]int64{100, 100}},
		{1000, 0, least, 0, [2]int64{100, 100}},
		{1000, 0, 0, 0, [2]int64{0, 100}},
		{1000, 0, 0, 0, [2]int64{100, 0}},
		{1000, 5000, 5000, 8, [2]int64{100, 100}},
		{1000, 5000, 1050, 8, [2]int64{100, 100}},
		{1000, greatest, 0, 8, [2]int64{100, 100}},
		{greatest, 0, 0, 0, [2]int64{100, 100}},
		{least, least, least, 0, [2]int64{100, 100}},
	} {
		p := deskOf(t, 24, api.Admin{Name: "al", Life: c.life[0], Flags: allMays}, api.Admin{Name: "tgs", Life: c.life[1], Flags: allMays})
		ask := firstAsk{"al", "tgs", 7, c.from, c.till, 0, c.options, nil}
		wantCode(t, "never valid", p, c.now, ask.write(), api.NeverValid)
	}
}

func TestFlagsOfFirstTickets(t *testing.T) {
	mays := map[int64]int{1: api.MayForward, 2: api.MayProxy, 4: api.MayRenew}
	for options := range int64(8) {
		for flags := range 64 {
			client, service := flags%8*2, flags/8*2 // of MayRenew, MayForward, MayProxy
			p := deskOf(t, 24, api.Admin{Name: "al", Key: alKey, Life: 9, Flags: client}, api.Admin{Name: "tgs", Key: tgsKey, Life: 9, Flags: service})
			g := grant{flags: 32, client: "al", auth: 1000, start: 1000, end: 1009}
			for option, may := range mays {
				if options&option != 0 && client&may != 0 && service&may != 0 {
					g.flags |= option
				}
			}
			if g.flags&4 != 0 {
				g.renew = 1000
			}
			ask := plainFirst
			ask.options = options
			wantAnswer(t, fmt.Sprintf("options %d, flags %d and %d", options, client, service), p, 1000, ask.write(), toTgs(g).toFirst())
		}
	}
}

func TestOptionsOfFirstRequests(t *testing.T) {
	ask := plainFirst
	ask.from = 990
	for bit := range 64 {
		ask.options = 1 << bit
		p := deskOf(t, 24, usual(allMays)...)
		if bit > 3 {
			wantCode(t, fmt.Sprint("option bit ", bit), p, 1000, ask.write(), api.BadOption)
			ask.options |= 15
			wantCode(t, fmt.Sprint("option bit with others ", bit), p, 1000, ask.write(), api.BadOption)
			continue
		}
		g := grant{flags: 32 | ask.options, client: "al", auth: 1000, start: 1000, end: 1100}
		switch bit {
		case 2:
			g.renew = 1500
		case 3:
			g.flags, g.start, g.end = 32|8|16, 990, 1090
		}
		wantAnswer(t, fmt.Sprint("option bit ", bit), p, 1000, ask.write(), toTgs(g).toFirst())
	}
	for _, options := range []int64{-1, -8, -16, least, greatest, least | 1} {
		ask.options = options
		wantCode(t, "options", deskOf(t, 24, usual(allMays)...), 1000, ask.write(), api.BadOption)
	}
	ask.options = 15
	g := grant{flags: 63, client: "al", auth: 1000, start: 990, end: 1090, renew: 1490}
	wantAnswer(t, "all options", deskOf(t, 24, usual(allMays)...), 1000, ask.write(), toTgs(g).toFirst())
}

func TestPostdating(t *testing.T) {
	for _, flags := range [][2]int{{0, 0}, {api.MayPostdate, 0}, {0, api.MayPostdate}, {allMays &^ api.MayPostdate, allMays}} {
		p := deskOf(t, 24, api.Admin{Name: "al", Life: 9, Flags: flags[0]}, api.Admin{Name: "tgs", Life: 9, Flags: flags[1]})
		for _, from := range []int64{0, 999, 1000, 1001, 1011, greatest} {
			ask := firstAsk{"al", "tgs", 7, from, 1, 0, api.Postdated, nil}
			wantCode(t, "who may not postdate", p, 1000, ask.write(), api.CannotPostdate)
		}
	}
	// Without the option from may be later than now by the skew, and no more.
	for _, skew := range []int{0, 1, 299, api.MaxSkew} {
		for _, c := range []struct {
			now, from int64
			code      int64
		}{
			{1000, 1000 + int64(skew), api.NeverValid}, {1000, 1001 + int64(skew), api.CannotPostdate}, {1000, greatest, api.CannotPostdate}, {1000, least, api.NeverValid},
			{greatest - int64(skew), greatest, api.NeverValid}, {greatest - int64(skew) - 1, greatest, api.CannotPostdate}, {greatest, greatest, api.NeverValid},
			{least, least + int64(skew), api.NeverValid}, {least, least + int64(skew) + 1, api.CannotPostdate}, {least, greatest, api.CannotPostdate},
		} {
			p := newDesk(t, skew, drawBytes(24))
			wantAdmin(t, p, add("al"), api.OK)
			wantAdmin(t, p, add("tgs"), api.OK)
			ask := firstAsk{client: "al", service: "tgs", from: c.from}
			wantCode(t, fmt.Sprintf("skew %d, from %d", skew, c.from), p, c.now, ask.write(), c.code)
		}
	}
}

func TestPreTimes(t *testing.T) {
	for _, skew := range []int{0, 1, 10, api.MaxSkew} {
		far := int64(skew)
		for _, c := range []struct {
			now, time int64
			skewed    bool
		}{
			{1000, 1000, false}, {1000, 1000 + far, false}, {1000, 1000 - far, false}, {1000, 1001 + far, true}, {1000, 999 - far, true},
			{0, greatest, true}, {0, least, true}, {-1, greatest, true}, {1, least, true}, {least, greatest, true}, {greatest - 1, least, true},
			{least, least, false}, {least, least + far, false}, {least, least + far + 1, true}, {greatest - 1, greatest - 1 - far, false}, {greatest - 1, greatest - 2 - far, true},
		} {
			p := newDesk(t, skew, drawBytes(24))
			wantAdmin(t, p, api.Admin{Kind: api.Add, Name: "al", Key: alKey, Life: 1, Flags: api.MustPre}, api.OK)
			wantAdmin(t, p, api.Admin{Kind: api.Add, Name: "tgs", Key: tgsKey, Life: 1}, api.OK)
			ask := plainFirst
			ask.from, ask.pre = c.now, makePre(1, alKey, c.time)
			if c.skewed {
				wantCode(t, fmt.Sprintf("skew %d, pre %d", skew, c.time), p, c.now, ask.write(), api.Skewed)
				continue
			}
			g := grant{flags: 32 | 64, client: "al", auth: c.now, start: c.now, end: c.now + 1}
			wantAnswer(t, fmt.Sprintf("skew %d, pre %d", skew, c.time), p, c.now, ask.write(), toTgs(g).toFirst())
		}
	}
}

func TestPreThatFails(t *testing.T) {
	time := makeNumber(1000)
	sealed := func(key uint64, use int, plain []byte) []byte {
		return slices.Concat(makeNumber(2), makeBox(4, rawSeal(key, use, 3, plain)...))
	}
	rekey := api.Admin{Kind: api.Rekey, Name: "al", Key: 99}
	ask := plainFirst
	for what, pre := range map[string][]byte{
		"the number ahead":      makePre(1, alKey, 1000),
		"the number ahead, new": makePre(1, 99, 1000),
		"the number behind":     makePre(3, 99, 1000),
		"the number 0":          makePre(0, 99, 1000),
		"a far number":          makePre(1<<32+2, 99, 1000),
		"the least number":      makePre(least, 99, 1000),
		"the key ahead":         sealed(alKey, 1, time),
		"another key":           sealed(tgsKey, 1, time),
		"another use":           sealed(99, 2, time),
		"the use 3":             sealed(99, 3, time),
		"nothing sealed":        sealed(99, 1, nil),
		"a text":                sealed(99, 1, textBox("abc")),
		"a list":                sealed(99, 1, makeList(time)),
		"two numbers":           sealed(99, 1, numberBoxes(1000, 1000)),
		"a byte behind":         sealed(99, 1, append(slices.Clone(time), 0)),
		"a byte less":           sealed(99, 1, time[:3]),
		"a long number":         sealed(99, 1, []byte{2, 3, 0, 3, 232}),
		"a long length":         sealed(99, 1, []byte{2, 129, 2, 3, 232}),
		"nine bytes":            sealed(99, 1, makeBox(2, 1, 2, 3, 4, 5, 6, 7, 8, 9)),
		"above MaxPlain":        sealed(99, 1, make([]byte, 220)),
		"no bytes":              slices.Concat(makeNumber(2), textBox("")),
		"15 bytes":              slices.Concat(makeNumber(2), makeText(15)),
	} {
		for _, flags := range []int{0, api.MustPre} {
			entries := usual(flags)
			ask.pre = pre
			wantCode(t, "pre with "+what, deskOf(t, 24, append(entries, rekey)...), 1000, ask.write(), api.PreFailed)
		}
	}
	ask.pre = nil
	wantCode(t, "no pre", deskOf(t, 24, append(usual(api.MustPre), rekey)...), 1000, ask.write(), api.PreRequired)
	ask.pre = sealed(99, 1, time)
	want := toTgs(grant{flags: 32 | 64, client: "al", auth: 1000, start: 1000, end: 1100})
	want.partNumber, want.partKey = 2, 99
	wantAnswer(t, "pre with the new key", deskOf(t, 24, append(usual(api.MustPre), rekey)...), 1000, ask.write(), want.toFirst())
	// MustPre of the service asks nothing of the client.
	entries := usual(0)
	entries[0].Flags = api.MustPre
	wantAnswer(t, "MustPre of the service", deskOf(t, 24, entries...), 1000, plainFirst.write(), toTgs(grant{flags: 32, client: "al", auth: 1000, start: 1000, end: 1100}).toFirst())
}

// wantExpire wants a request at 1000 to be granted or not by the Expire of one of the usual entries.
func wantExpire(t *testing.T, entry int, code int64, request, granted []byte) {
	t.Helper()
	for _, c := range []struct {
		expire int64
		over   bool
	}{{0, false}, {999, true}, {1000, true}, {1001, false}, {-1, true}, {least, true}, {greatest, false}} {
		entries := usual(0)
		entries[entry].Expire = c.expire
		want := granted
		if c.over {
			want = makeRefusal(1000, code)
		}
		wantAnswer(t, fmt.Sprint("Expire ", c.expire), deskOf(t, 24, entries...), 1000, request, want)
	}
}

func TestExpireAndOffOfFirstRequests(t *testing.T) {
	granted := toTgs(grant{flags: 32, client: "al", auth: 1000, start: 1000, end: 1100}).toFirst()
	wantExpire(t, 0, api.ServiceExpired, plainFirst.write(), granted)
	wantExpire(t, 1, api.Expired, plainFirst.write(), granted)
	for i := range 2 {
		entries := usual(0)
		entries[i].Flags = api.Off
		p := deskOf(t, 24, entries...)
		wantCode(t, "an entry that is off", p, 1000, plainFirst.write(), api.Policy)
		wantAdmin(t, p, api.Admin{Kind: api.Repolicy, Name: entries[i].Name, Life: 100}, api.OK)
		wantAnswer(t, "an entry that is on again", p, 1000, plainFirst.write(), granted)
	}
}

func TestKeysOfFirstReplies(t *testing.T) {
	p := deskOf(t, 24, append(usual(0),
		api.Admin{Kind: api.Rekey, Name: "web", Key: 5}, api.Admin{Kind: api.Rekey, Name: "web", Key: 6},
		api.Admin{Kind: api.Rekey, Name: "al", Key: 1<<64 - 1})...)
	want := given{service: "web", number: 3, key: 6, nonce: greatest, partNumber: 2, partKey: 1<<64 - 1}
	want.grant = grant{flags: 32, client: "al", auth: 1000, start: 1000, end: 1050}
	wantAnswer(t, "new keys", p, 1000, firstAsk{client: "al", service: "web", nonce: greatest}.write(), want.drawnFrom(0).toFirst())
	// One that is its own service.
	p = deskOf(t, 24, usual(0)...)
	want = given{service: "al", number: 1, key: alKey, nonce: least, partNumber: 1, partKey: alKey}
	want.grant = grant{flags: 32, client: "al", auth: 1000, start: 1000, end: 1100}
	wantAnswer(t, "a ticket for oneself", p, 1000, firstAsk{client: "al", service: "al", nonce: least}.write(), want.drawnFrom(0).toFirst())
	long := strings.Repeat("z/0", 5) + "9"
	p = deskOf(t, 24, api.Admin{Name: long, Key: 1, Life: greatest, Renew: greatest, Flags: allMays})
	want = given{service: long, number: 1, key: 1, nonce: least, partNumber: 1, partKey: 1}
	want.grant = grant{flags: 63, client: long, auth: least, start: least + 1, end: least + 2, renew: least}
	ask := firstAsk{long, long, least, least + 1, least + 2, least, 15, nil}
	wantAnswer(t, "all that is longest", p, least, ask.write(), want.drawnFrom(0).toFirst())
}

func TestDrawsOfFirstRequests(t *testing.T) {
	g := grant{flags: 32, client: "al", auth: 1000, start: 1000, end: 1100}
	for _, n := range []int{0, 1, 8, 16, 23} {
		wantCode(t, fmt.Sprint(n, " bytes of draws"), deskOf(t, n, usual(0)...), 1000, plainFirst.write(), api.Generic)
	}
	for _, n := range []int{24, 25, 47, 48, 49} {
		p := deskOf(t, n, usual(0)...)
		for i := range n / 24 {
			wantAnswer(t, fmt.Sprint(n, " bytes of draws"), p, 1000, plainFirst.write(), toTgs(g).drawnFrom(3*i).toFirst())
		}
		wantCode(t, "no draws", p, 1000, plainFirst.write(), api.Generic)
		wantState(t, p, api.State{Names: []string{"al", "tgs", "web"}, Numbers: []int{1, 1, 1}, Left: n % 24})
	}
	p := deskOf(t, 24, usual(0)...)
	wantCode(t, "a refusal", p, 1000, firstAsk{client: "x", service: "y"}.write(), api.Unknown)
	wantAnswer(t, "the first draws behind a refusal", p, 1000, plainFirst.write(), toTgs(g).toFirst())
}

// firstScene is a first request and a desk, which faults can be put into.
type firstScene struct {
	ask     firstAsk
	al, tgs api.Admin
	draws   int
}

func (s *firstScene) desk(t *testing.T) *both {
	t.Helper()
	return deskOf(t, s.draws, s.al, s.tgs)
}

// firstFaults has one fault of every check of a first request, in their order.
var firstFaults = []struct {
	code  int64
	spoil func(s *firstScene)
}{
	{api.Unknown, func(s *firstScene) { s.ask.client = "x" }},
	{api.ServiceUnknown, func(s *firstScene) { s.ask.service = "y" }},
	{api.Expired, func(s *firstScene) { s.al.Expire = 1000 }},
	{api.ServiceExpired, func(s *firstScene) { s.tgs.Expire = 1000 }},
	{api.Policy, func(s *firstScene) { s.al.Flags |= api.Off }},
	{api.Policy, func(s *firstScene) { s.tgs.Flags |= api.Off }},
	{api.PreRequired, func(s *firstScene) { s.al.Flags |= api.MustPre; s.ask.pre = nil }},
	{api.PreFailed, func(s *firstScene) { s.ask.pre = makePre(1, 5, 1000) }},
	{api.PreFailed, func(s *firstScene) { s.ask.pre = makePre(2, alKey, 2000) }},
	{api.Skewed, func(s *firstScene) { s.ask.pre = makePre(1, alKey, 2000) }},
	{api.BadOption, func(s *firstScene) { s.ask.options |= api.Renew }},
	{api.BadOption, func(s *firstScene) { s.ask.options |= least }},
	{api.CannotPostdate, func(s *firstScene) { s.ask.options |= api.Postdated; s.tgs.Flags &^= api.MayPostdate }},
	{api.CannotPostdate, func(s *firstScene) { s.ask.options &^= api.Postdated; s.ask.from = 1011 }},
	{api.NeverValid, func(s *firstScene) { s.ask.till = 1000; s.ask.from = max(s.ask.from, 1000) }},
	{api.NeverValid, func(s *firstScene) { s.al.Life = 0 }},
	{api.Generic, func(s *firstScene) { s.draws = 23 }},
}

func rightFirstScene() firstScene {
	entries := usual(allMays)
	return firstScene{plainFirst, entries[1], entries[0], 24}
}

func TestOrderOfFirstChecks(t *testing.T) {
	r := rand.New(rand.NewSource(31))
	try := func(chosen int) {
		t.Helper()
		scene := rightFirstScene()
		code := int64(0)
		// The one named first comes last, lest one behind it undo it.
		for i, fault := range slices.Backward(firstFaults) {
			if chosen>>i&1 == 1 {
				fault.spoil(&scene)
				code = fault.code
			}
		}
		wantCode(t, fmt.Sprintf("faults %b", chosen), scene.desk(t), 1000, scene.ask.write(), code)
	}
	for i := range firstFaults {
		for j := range i + 1 {
			try(1<<i | 1<<j)
		}
	}
	for range 3000 {
		try(1 + r.Intn(1<<len(firstFaults)-1))
	}
	scene := rightFirstScene()
	wantAnswer(t, "no fault", scene.desk(t), 1000, scene.ask.write(), toTgs(grant{flags: 32, client: "al", auth: 1000, start: 1000, end: 1100}).toFirst())
}
