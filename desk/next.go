package desk

import (
	"math/bits"

	"warden/api"
	"warden/messages"
	"warden/saturate"
)

// ownName is the name of the service that gives tickets.
const ownName = "tgs"

// Options of a next request: wishes for the new ticket, and the ways to make it, of which one at most is set.
const (
	wishes = api.Forwardable | api.Proxiable | api.Renewable
	ways   = api.Renew | api.Validate | api.Forwarded | api.Proxied
)

func (h *hearing) answerNext(ask messages.Next) []byte {
	var code int
checks:
	switch {
	default:
		var old, made messages.Grant
		old, code = h.admit(ask)
		if code != passed {
			break checks
		}
		code = api.TicketNotYet
		if old.Flags&api.Invalid != 0 && ask.Options&api.Validate == 0 || h.isAhead(old.Start) {
			break checks
		}
		code = api.TicketExpired
		if h.now > old.End {
			break checks
		}
		var p pair
		p.service, p.client, code = h.find(asService(ask.Service), asClient(old.Client))
		if code != passed {
			break checks
		}
		code = api.BadOption
		if !mayBe(ask.Options, old.Flags) {
			break checks
		}
		made, code = p.grant(h.now, ask, old)
		if code != passed {
			break checks
		}
		reply := messages.Reply{
			Grant:      made,
			Service:    ask.Service,
			ServiceKey: newestKey(&p.service),
			Nonce:      ask.Nonce,
			PartKey:    messages.Key{Number: 0, Key: old.Session},
		}
		code = api.Generic
		if !h.draw(&reply) {
			break checks
		}
		return reply.AppendToNext(h.ToReply[:0])
	}
	return h.refuse(code)
}

// admit opens the ticket and the proof of a next request. A proof that it passes is remembered.
func (h *hearing) admit(ask messages.Next) (old messages.Grant, code int) {
checks:
	switch {
	default:
		code = api.BadMatch
		if ask.Ticket.Service != ownName && !isOnItself(ask) {
			break checks
		}
		code = api.ServiceUnknown
		entry, ok := h.Find(ask.Ticket.Service)
		if !ok {
			break checks
		}
		code = api.BadKey
		key, ok := entry.KeyOf(ask.Ticket.Number)
		if !ok {
			break checks
		}
		code = api.BadSeal
		old, ok = messages.OpenTicket(h.ToOpen, key, ask.Ticket.Bytes)
		if !ok {
			break checks
		}
		proof, ok := messages.OpenProof(h.ToOpen, old.Session, ask.Proof)
		if !ok {
			break checks
		}
		code = api.BadMatch
		if proof.Client != old.Client {
			break checks
		}
		code = h.checkProof(proof)
		if code != passed {
			break checks
		}
		return old, passed
	}
	return messages.Grant{}, code
}

// isOnItself tells whether a ticket is shown for the sake of that ticket alone.
func isOnItself(ask messages.Next) bool {
	return ask.Options&(api.Renew|api.Validate) != 0 && ask.Ticket.Service == ask.Service
}

// checkProof checks whether a proof is new, and remembers it if so.
func (h *hearing) checkProof(proof messages.Proof) (code int) {
	if h.isFar(proof.Time) {
		return api.Skewed
	}
	remembered := &h.desk.proofs
	remembered.Forget(h.isFar)
	switch {
	case remembered.Has(proof):
		return api.Repeat
	case !remembered.Add(proof):
		return api.Generic
	}
	return passed
}

// mayBe tells whether the options may be set together, at a ticket of these flags.
func mayBe(options, flags int64) bool {
	way := options & ways
	switch {
	case options&^(wishes|ways) != 0:
		return false
	case bits.OnesCount64(uint64(way)) > 1:
		return false
	case way == api.Validate && options&wishes != 0:
		return false
	}
	return flags&neededFor(way) == neededFor(way)
}

// neededFor gives the flag that a ticket needs for a way.
func neededFor(way int64) int64 {
	switch way {
	case api.Renew:
		return api.Renewable
	case api.Validate:
		return api.Invalid
	case api.Forwarded:
		return api.Forwardable
	case api.Proxied:
		return api.Proxiable
	}
	return 0
}

// grant gives what is in the new ticket, but for its session key.
func (p *pair) grant(now int64, ask messages.Next, old messages.Grant) (made messages.Grant, code int) {
	switch ask.Options & ways {
	case api.Validate:
		return validated(now, old)
	case api.Renew:
		return renewed(now, old)
	}
	return p.derived(now, ask, old)
}

func validated(now int64, old messages.Grant) (made messages.Grant, code int) {
	if old.Start > now {
		return messages.Grant{}, api.TicketNotYet
	}
	made = old
	made.Flags &^= api.Invalid
	return made, passed
}

func renewed(now int64, old messages.Grant) (made messages.Grant, code int) {
	if old.Renew <= now {
		return messages.Grant{}, api.TicketExpired
	}
	made = old
	made.Start = now
	made.End = min(old.Renew, saturate.Sum(now, saturate.Difference(old.End, old.Start)))
	return made, passed
}

// derived gives a ticket for another service, or for another place.
func (p *pair) derived(now int64, ask messages.Next, old messages.Grant) (made messages.Grant, code int) {
	made = messages.Grant{Client: old.Client, Auth: old.Auth, Start: now}
	made.End = min(old.End, p.end(now, ask.Till))
	if made.End <= now {
		return messages.Grant{}, api.NeverValid
	}
	made.Flags = old.Flags&(api.Pre|api.WasForwarded|api.WasProxied) | p.allowed(ask.Options&old.Flags)
	if ask.Options&api.Forwarded != 0 {
		made.Flags |= api.WasForwarded
	}
	if ask.Options&api.Proxied != 0 {
		made.Flags |= api.WasProxied
	}
	if made.Flags&api.Renewable != 0 {
		made.Renew = min(old.Renew, p.renew(now, ask.Rtime))
	}
	return made, passed
}
