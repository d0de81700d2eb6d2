package desk

import (
	"math"

	"warden/api"
	"warden/book"
	"warden/saturate"
)

// passed is no code: a check that tells it did not fail.
const passed = 0

// party is one of the two whom a ticket is about, with the codes that tell of it.
type party struct {
	name             string
	unknown, expired int
}

func asClient(name string) party {
	return party{name: name, unknown: api.Unknown, expired: api.Expired}
}

func asService(name string) party {
	return party{name: name, unknown: api.ServiceUnknown, expired: api.ServiceExpired}
}

// find gives the entries of two parties. Each check asks a ahead of b.
func (h *hearing) find(a, b party) (entryA, entryB book.Entry, code int) {
	entryA, thereA := h.Find(a.name)
	entryB, thereB := h.Find(b.name)
	switch {
	case !thereA:
		code = a.unknown
	case !thereB:
		code = b.unknown
	case entryA.IsOver(h.now):
		code = a.expired
	case entryB.IsOver(h.now):
		code = b.expired
	case entryA.Has(api.Off) || entryB.Has(api.Off):
		code = api.Policy
	}
	return entryA, entryB, code
}

// pair is a client and a service that want a ticket.
type pair struct {
	client, service book.Entry
}

func (p *pair) bothHave(flag int) bool {
	return p.client.Has(flag) && p.service.Has(flag)
}

// end gives the latest end of a ticket.
func (p *pair) end(start, till int64) int64 {
	return earliest(start, till, p.client.Life, p.service.Life)
}

// renew gives the latest time up to which a ticket can be renewed.
func (p *pair) renew(start, rtime int64) int64 {
	return earliest(start, rtime, p.client.Renew, p.service.Renew)
}

// earliest gives the least of a wish, where 0 is for ever, and start plus either length.
func earliest(start, wish, one, other int64) int64 {
	if wish == 0 {
		wish = math.MaxInt64
	}
	return min(wish, saturate.Sum(start, one), saturate.Sum(start, other))
}

// allowed gives the flags of a ticket that both let it have, of those that are wished for.
func (p *pair) allowed(wishes int64) (flags int64) {
	for _, rule := range [...]struct {
		flag int64
		may  int
	}{
		{api.Forwardable, api.MayForward},
		{api.Proxiable, api.MayProxy},
		{api.Renewable, api.MayRenew},
	} {
		if wishes&rule.flag != 0 && p.bothHave(rule.may) {
			flags |= rule.flag
		}
	}
	return flags
}
