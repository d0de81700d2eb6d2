// Package desk: what every desk keeps, whichever way it takes its requests, and how it answers them.
package desk

import (
	"warden/api"
	"warden/book"
	"warden/draws"
	"warden/messages"
	"warden/proofs"
	"warden/saturate"
)

// Desk is a book, the draws, the proofs that were shown lately, and how far a client's time may be apart from the desk's. A copy of a desk is a desk of its own.
type Desk struct {
	skew   int64
	draws  draws.Draws
	book   book.Book
	proofs proofs.Proofs
}

// New makes a desk with an empty book.
func New(skew int, data []byte) (Desk, api.Errno) {
	if skew < 0 || skew > api.MaxSkew {
		return Desk{}, api.ErrArg
	}
	return Desk{skew: int64(skew), draws: draws.Of(data)}, api.OK
}

// Admin does something to the book.
func (d *Desk) Admin(a api.Admin) api.Errno {
	return d.book.Change(a)
}

// State tells what there is.
func (d *Desk) State() api.State {
	return api.State{
		Names:   d.book.Names(),
		Numbers: d.book.Numbers(),
		Repeats: d.proofs.Count(),
		Left:    d.draws.Left(),
	}
}

// Answer answers a request.
func (d *Desk) Answer(now int64, request []byte) []byte {
	if ask, ok := messages.ReadFirst(request); ok {
		return d.answerFirst(now, ask)
	}
	if ask, ok := messages.ReadNext(request); ok {
		return d.answerNext(now, ask)
	}
	return messages.Refuse(now, api.Generic)
}

// isFar tells whether a client's time is more than skew apart from now.
func (d *Desk) isFar(now, time int64) bool {
	return saturate.Apart(now, time) > d.skew
}

// isAhead tells whether a time is yet to come, by a clock that may be skew behind.
func (d *Desk) isAhead(now, time int64) bool {
	return time > saturate.Sum(now, d.skew)
}

// draw fills in what of a reply is drawn. It is not ok, and nothing is drawn, if too few draws are left for that.
func (d *Desk) draw(reply *messages.Reply) (ok bool) {
	var drawn [3]uint64
	ok = d.draws.Fill(drawn[:])
	reply.Session, reply.TicketDraw, reply.PartDraw = drawn[0], drawn[1], drawn[2]
	return ok
}
