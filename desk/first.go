package desk

import (
	"warden/api"
	"warden/book"
	"warden/messages"
)

const firstOptions = api.Forwardable | api.Proxiable | api.Renewable | api.Postdated

func (h *hearing) answerFirst(ask messages.First) []byte {
	var code int
	// A switch with one case, for Go leaves no plain block by its label.
checks:
	switch {
	default:
		var p pair
		p.client, p.service, code = h.find(asClient(ask.Client), asService(ask.Service))
		if code != passed {
			break checks
		}
		code = h.checkPre(&p.client, ask)
		if code != passed {
			break checks
		}
		code = api.BadOption
		if ask.Options&^firstOptions != 0 {
			break checks
		}
		code = api.CannotPostdate
		start, ok := h.start(&p, ask)
		if !ok {
			break checks
		}
		code = api.NeverValid
		end := p.end(start, ask.Till)
		if end <= start {
			break checks
		}
		reply := messages.Reply{
			Grant:      messages.Grant{Client: ask.Client, Auth: h.now, Start: start, End: end},
			Service:    ask.Service,
			ServiceKey: newestKey(&p.service),
			Nonce:      ask.Nonce,
			PartKey:    newestKey(&p.client),
		}
		reply.Flags = firstFlags(&p, ask)
		if reply.Flags&api.Renewable != 0 {
			reply.Renew = p.renew(start, ask.Rtime)
		}
		code = api.Generic
		if !h.draw(&reply) {
			break checks
		}
		return reply.AppendToFirst(h.ToReply[:0])
	}
	return h.refuse(code)
}

func newestKey(entry *book.Entry) messages.Key {
	return messages.Key{Number: entry.Number, Key: entry.Key}
}

// checkPre checks whether the client has shown that it has its key.
func (h *hearing) checkPre(client *book.Entry, ask messages.First) (code int) {
	if !ask.HasPre {
		if client.Has(api.MustPre) {
			return api.PreRequired
		}
		return passed
	}
	time, ok := messages.OpenPre(h.ToOpen, client.Key, ask.Pre.Bytes)
	switch {
	case !ok || ask.Pre.Number != int64(client.Number):
		return api.PreFailed
	case h.isFar(time):
		return api.Skewed
	}
	return passed
}

// start gives the start of a first ticket. It is not ok, if that may not be postdated.
func (h *hearing) start(p *pair, ask messages.First) (start int64, ok bool) {
	if ask.Options&api.Postdated != 0 {
		return ask.From, p.bothHave(api.MayPostdate)
	}
	return h.now, !h.isAhead(ask.From)
}

func firstFlags(p *pair, ask messages.First) int64 {
	flags := api.First | p.allowed(ask.Options)
	if ask.HasPre {
		flags |= api.Pre
	}
	if ask.Options&api.Postdated != 0 {
		flags |= api.Postdated | api.Invalid
	}
	return flags
}
