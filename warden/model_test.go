package warden_test

import (
	"math/big"
	"math/rand"
	"slices"
	"testing"

	"warden/api"
)

// A model of a desk: it is told what requests say, not their bytes, and answers as the document says.
type model struct {
	skew    int64
	draws   []byte
	entries map[string]*modelEntry
	proofs  []modelProof
}

type modelEntry struct {
	api.Admin
	number int64
	keys   map[int64]uint64
}

type modelProof struct {
	client      string
	time, count int64
}

// modelSeal is how something is sealed; spoilt: there is a byte too many in it.
type modelSeal struct {
	key    uint64
	use    int
	spoilt bool
}

type modelFirst struct {
	firstAsk
	hasPre    bool
	preNumber int64
	preTime   int64
	preSeal   modelSeal
}

type modelNext struct {
	nextAsk
	of         string
	number     int64
	old        grant
	ticketSeal modelSeal
	shown      modelProof
	proofSeal  modelSeal
}

func (s modelSeal) seal(plain []byte) []byte {
	if s.spoilt {
		plain = append(plain, 0)
	}
	return rawSeal(s.key, s.use, 12345, plain)
}

func (s modelSeal) opens(key uint64, use int) bool {
	return s == modelSeal{key, use, false}
}

// sum gives a plus b times sign, saturating.
func sum(a, b, sign int64) int64 {
	v := new(big.Int).Mul(big.NewInt(b), big.NewInt(sign))
	v.Add(v, big.NewInt(a))
	switch {
	case v.IsInt64():
		return v.Int64()
	case v.Sign() > 0:
		return greatest
	}
	return least
}

func (m *model) far(now, time int64) bool {
	return sum(max(now, time), min(now, time), -1) > m.skew
}

func (m *model) admin(a api.Admin) {
	entry := m.entries[a.Name]
	switch a.Kind {
	case api.Add:
		m.entries[a.Name] = &modelEntry{a, 1, map[int64]uint64{1: a.Key}}
	case api.Delete:
		delete(m.entries, a.Name)
	case api.Rekey:
		entry.number++
		entry.keys[entry.number] = a.Key
		delete(entry.keys, entry.number-2)
	case api.Repolicy:
		entry.Admin = a
	}
}

func (m *model) over(name string, now int64) bool {
	expire := m.entries[name].Expire
	return expire != 0 && expire <= now
}

// bound gives the least of a wish and start plus some lengths.
func bound(start, wish int64, lengths ...int64) int64 {
	out := int64(greatest)
	if wish != 0 {
		out = wish
	}
	for _, length := range lengths {
		out = min(out, sum(start, length, 1))
	}
	return out
}

// may gives those of the wishes that two entries allow.
func may(wishes int64, a, b *modelEntry) (flags int64) {
	both := a.Flags & b.Flags
	if wishes&1 != 0 && both&api.MayForward != 0 {
		flags += 1
	}
	if wishes&2 != 0 && both&api.MayProxy != 0 {
		flags += 2
	}
	if wishes&4 != 0 && both&api.MayRenew != 0 {
		flags += 4
	}
	return flags
}

// give draws for a ticket, or gives the code that there are too few draws.
func (m *model) give(out given, service *modelEntry) (given, int64) {
	if len(m.draws) < 24 {
		return given{}, api.Generic
	}
	var numbers [3]uint64
	for i := range 24 {
		numbers[i/8] = numbers[i/8]<<8 | uint64(m.draws[i])
	}
	m.draws = m.draws[24:]
	out.session, out.draws = numbers[0], [2]uint64{numbers[1], numbers[2]}
	out.service, out.number, out.key = service.Name, service.number, service.keys[service.number]
	return out, 0
}

func (m *model) first(now int64, a modelFirst) (given, int64) {
	client, service := m.entries[a.client], m.entries[a.service]
	switch {
	case client == nil:
		return given{}, api.Unknown
	case service == nil:
		return given{}, api.ServiceUnknown
	case m.over(a.client, now):
		return given{}, api.Expired
	case m.over(a.service, now):
		return given{}, api.ServiceExpired
	case (client.Flags|service.Flags)&api.Off != 0:
		return given{}, api.Policy
	case client.Flags&api.MustPre != 0 && !a.hasPre:
		return given{}, api.PreRequired
	case a.hasPre && (a.preNumber != client.number || !a.preSeal.opens(client.keys[client.number], 1)):
		return given{}, api.PreFailed
	case a.hasPre && m.far(now, a.preTime):
		return given{}, api.Skewed
	case a.options < 0 || a.options > 15:
		return given{}, api.BadOption
	}
	out := given{nonce: a.nonce, partNumber: client.number, partKey: client.keys[client.number]}
	out.grant = grant{flags: 32 + may(a.options, client, service), client: a.client, auth: now, start: now}
	if a.options >= 8 {
		out.start = a.from
		out.flags += 8 + 16
		if client.Flags&service.Flags&api.MayPostdate == 0 {
			return given{}, api.CannotPostdate
		}
	} else if a.from > sum(now, m.skew, 1) {
		return given{}, api.CannotPostdate
	}
	if a.hasPre {
		out.flags += 64
	}
	out.end = bound(out.start, a.till, client.Life, service.Life)
	if out.end <= out.start {
		return given{}, api.NeverValid
	}
	if out.flags&4 != 0 {
		out.renew = bound(out.start, a.rtime, client.Renew, service.Renew)
	}
	return m.give(out, service)
}

// show checks a ticket and a proof, up to where the proof is remembered.
func (m *model) show(now int64, a modelNext) int64 {
	entry := m.entries[a.of]
	if a.of != "tgs" && (a.option&(16|32) == 0 || a.of != a.service) {
		return api.BadMatch
	}
	if entry == nil {
		return api.ServiceUnknown
	}
	key, ok := entry.keys[a.number]
	switch {
	case !ok:
		return api.BadKey
	case !a.ticketSeal.opens(key, 2):
		return api.BadSeal
	case !a.proofSeal.opens(a.old.session, 4):
		return api.BadSeal
	case a.shown.client != a.old.client:
		return api.BadMatch
	case m.far(now, a.shown.time):
		return api.Skewed
	}
	m.proofs = slices.DeleteFunc(m.proofs, func(p modelProof) bool { return m.far(now, p.time) })
	switch {
	case slices.Contains(m.proofs, a.shown):
		return api.Repeat
	case len(m.proofs) == 8:
		return api.Generic
	}
	m.proofs = append(m.proofs, a.shown)
	return 0
}

func (m *model) next(now int64, a modelNext) (given, int64) {
	if code := m.show(now, a); code != 0 {
		return given{}, code
	}
	client, service := m.entries[a.old.client], m.entries[a.service]
	switch {
	case a.old.flags&16 != 0 && a.option&32 == 0, a.old.start > sum(now, m.skew, 1):
		return given{}, api.TicketNotYet
	case now > a.old.end:
		return given{}, api.TicketExpired
	case service == nil:
		return given{}, api.ServiceUnknown
	case client == nil:
		return given{}, api.Unknown
	case m.over(a.service, now):
		return given{}, api.ServiceExpired
	case m.over(a.old.client, now):
		return given{}, api.Expired
	case (client.Flags|service.Flags)&api.Off != 0:
		return given{}, api.Policy
	case !together(a.option, a.old.flags):
		return given{}, api.BadOption
	}
	out := given{grant: a.old, nonce: a.nonce, partKey: a.old.session}
	switch {
	case a.option&32 != 0:
		if a.old.start > now {
			return given{}, api.TicketNotYet
		}
		out.flags -= 16
	case a.option&16 != 0:
		if a.old.renew <= now {
			return given{}, api.TicketExpired
		}
		out.start, out.end = now, min(a.old.renew, sum(now, sum(a.old.end, a.old.start, -1), 1))
	default:
		out.start, out.end = now, min(a.old.end, bound(now, a.till, client.Life, service.Life))
		if out.end <= now {
			return given{}, api.NeverValid
		}
		out.flags = may(a.option&a.old.flags, client, service) | a.old.flags&(64|128|256) | a.option&(64|128)*2
		out.renew = 0
		if out.flags&4 != 0 {
			out.renew = min(a.old.renew, bound(now, a.rtime, client.Renew, service.Renew))
		}
	}
	return m.give(out, service)
}

func (m *model) state() (out api.State) {
	for name := range m.entries {
		out.Names = append(out.Names, name)
	}
	slices.Sort(out.Names)
	for _, name := range out.Names {
		out.Numbers = append(out.Numbers, int(m.entries[name].number))
	}
	out.Repeats, out.Left = len(m.proofs), len(m.draws)
	return out
}

// chance draws what the model and the desk are told.
type chance struct{ *rand.Rand }

// rarely tells true once in n times.
func (r chance) rarely(n int) bool { return r.Intn(n) == 0 }

func pick[T any](r chance, some ...T) T { return some[r.Intn(len(some))] }

// time gives a time near now as a rule.
func (r chance) time(now int64) int64 {
	if r.rarely(8) {
		return pick[int64](r, least, least+1, -1, 0, 1, greatest-1, greatest, int64(r.Uint64()))
	}
	return now + pick[int64](r, -11, -10, -9, -1, 0, 1, 9, 10, 11, 60, 200, int64(r.Intn(400)-100))
}

// later gives a time that is not past, as a rule; 0 too.
func (r chance) later(now int64) int64 {
	if r.rarely(3) {
		return r.time(now)
	}
	return pick[int64](r, 0, sum(now, int64(r.Intn(300)), 1))
}

func (r chance) name() string {
	if r.rarely(20) {
		return "x"
	}
	return pick(r, "tgs", "tgs", "al", "al", "bo", "web")
}

func (r chance) policy(a api.Admin, now int64) api.Admin {
	a.Life, a.Renew, a.Flags = int64(50+r.Intn(100)), int64(50+r.Intn(500)), allMays
	if r.rarely(4) {
		a.Life = pick[int64](r, 0, 1, greatest, greatest-1)
	}
	if r.rarely(4) {
		a.Renew = pick[int64](r, 0, 1, greatest, greatest-1)
	}
	if r.rarely(4) {
		a.Flags = r.Intn(64)
	}
	if r.rarely(8) {
		a.Expire = r.time(now)
	}
	return a
}

func (r chance) seal(key uint64, use int) modelSeal {
	out := modelSeal{key, use, r.rarely(40)}
	if r.rarely(40) {
		out.key = r.Uint64()
	}
	if r.rarely(40) {
		out.use = 1 + r.Intn(5)
	}
	return out
}

func (r chance) options(all []int64) (options int64) {
	for _, option := range all {
		if r.rarely(3) {
			options |= option
		}
	}
	if r.rarely(15) {
		options ^= 1 << r.Intn(64)
	}
	return options
}

func (r chance) first(now int64, m *model) modelFirst {
	a := modelFirst{hasPre: r.rarely(2), preNumber: 1, preTime: now + int64(r.Intn(30)-15)}
	a.firstAsk = firstAsk{client: r.name(), service: r.name(), nonce: int64(r.Uint64()), from: r.time(now), till: r.later(now), rtime: r.later(now)}
	a.options = r.options([]int64{1, 2, 4, 8})
	if client := m.entries[a.client]; client != nil {
		a.preNumber = client.number
	}
	var key uint64
	if client := m.entries[a.client]; client != nil {
		key = client.keys[client.number]
	}
	if r.rarely(20) {
		a.preNumber += pick[int64](r, -1, 1, 1<<32)
	}
	a.preSeal = r.seal(key, 1)
	if a.hasPre {
		a.pre = slices.Concat(makeNumber(a.preNumber), makeBox(4, a.preSeal.seal(makeNumber(a.preTime))...))
	}
	return a
}

func (r chance) next(now int64, m *model) modelNext {
	a := modelNext{of: "tgs"}
	if r.rarely(6) {
		a.of = r.name()
	}
	a.service = pick(r, a.of, "web", "tgs", r.name())
	a.nonce, a.till, a.rtime = int64(r.Uint64()), r.later(now), r.later(now)
	a.option = r.options([]int64{1, 2, 4}) | pick[int64](r, 0, 0, 0, 16, 32, 64, 128)
	if a.option&32 != 0 && !r.rarely(6) {
		a.option &= 32
	}
	a.old = grant{flags: r.options([]int64{1, 2, 4, 64, 128, 256}), session: r.Uint64(), client: pick(r, "al", "al", "al", r.name()), auth: r.time(now), start: r.time(now), end: r.later(now), renew: r.time(now)}
	if a.option&32 != 0 && !r.rarely(6) {
		a.old.flags |= 16
	}
	if !r.rarely(4) {
		a.old.flags |= a.option >> 2 & 4
		a.old.flags |= a.option >> 6 & 3
	}
	entry := m.entries[a.of]
	var key uint64
	if entry != nil {
		a.number = entry.number - int64(r.Intn(8)/7)
		key = entry.keys[a.number]
	}
	if r.rarely(30) {
		a.number += pick[int64](r, -2, 1, 1<<32)
	}
	a.ticketSeal, a.proofSeal = r.seal(key, 2), r.seal(a.old.session, 4)
	a.shown = modelProof{a.old.client, now + int64(r.Intn(24)-12), int64(r.Intn(4))}
	if r.rarely(40) {
		a.shown.client = r.name()
	}
	a.ticket = sealedTicket(a.of, a.number, a.ticketSeal.seal(makeList(a.old.boxes()...)))
	a.proof = a.proofSeal.seal(makeList(textBox(a.shown.client), numberBoxes(a.shown.time, a.shown.count)))
	return a
}

// admin gives something that can be done to the book.
func (r chance) admin(now int64, m *model) api.Admin {
	a := api.Admin{Kind: pick(r, api.Delete, api.Rekey, api.Rekey, api.Rekey, api.Repolicy, api.Repolicy, api.Repolicy), Name: pick(r, "tgs", "al", "bo", "web"), Key: r.Uint64()}
	if m.entries[a.Name] == nil {
		a.Kind = api.Add
	}
	if a.Kind != api.Rekey {
		a = r.policy(a, now)
	}
	return a
}

func TestManyRequests(t *testing.T) {
	r := chance{rand.New(rand.NewSource(43))}
	var codes [64]int
	for range 400 {
		m := &model{skew: pick[int64](r, 0, 10, 10, 10, 11, api.MaxSkew), draws: randomBytes(r.Rand, 24*r.Intn(60)+r.Intn(24)), entries: make(map[string]*modelEntry)}
		p := newDesk(t, int(m.skew), m.draws)
		now := pick[int64](r, 1000, 1000, least, 0, greatest-200, greatest-30, int64(r.Uint64()))
		for _, name := range []string{"tgs", "al", "bo", "web"} {
			a := r.policy(api.Admin{Kind: api.Add, Name: name, Key: r.Uint64()}, now)
			m.admin(a)
			wantAdmin(t, p, a, api.OK)
		}
		for range 60 {
			now = sum(now, pick[int64](r, 0, 0, 1, -1, 5, -5, int64(r.Intn(40))), 1)
			var request, want []byte
			var out given
			var code int64
			switch r.Intn(8) {
			case 0:
				a := r.admin(now, m)
				m.admin(a)
				wantAdmin(t, p, a, api.OK)
				continue
			case 1, 2, 3:
				a := r.first(now, m)
				request = a.write()
				out, code = m.first(now, a)
				want = out.toFirst()
			default:
				a := r.next(now, m)
				request = a.write()
				out, code = m.next(now, a)
				want = out.toNext()
			}
			if code != 0 {
				want = makeRefusal(now, code)
			}
			codes[code]++
			wantAnswer(t, "a request of many", p, now, request, want)
			wantState(t, p, m.state())
		}
	}
	for _, code := range []int{0, 1, 2, 6, 7, 10, 11, 12, 13, 24, 25, 31, 32, 33, 34, 36, 37, 44, 60} {
		if codes[code] < 20 {
			t.Errorf("of many requests %d came to the code %d", codes[code], code)
		}
	}
	t.Log(codes)
}
