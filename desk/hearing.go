package desk

import (
	"warden/api"
	"warden/book"
	"warden/messages"
	"warden/saturate"
)

// Finder finds the entries that the book has now.
type Finder interface {
	Find(name string) (entry book.Entry, ok bool)
}

// Means is what a request is answered by: what finds entries, and the rooms for what is opened and for the reply. Where a room does not suffice, new memory is taken.
type Means struct {
	Finder
	ToOpen, ToReply []byte
}

// AnswerBy answers a request. The reply may lie in the room for it.
func (d *Desk) AnswerBy(means Means, now int64, request []byte) []byte {
	h := hearing{Means: means, desk: d, now: now}
	if ask, ok := messages.ReadFirst(request); ok {
		return h.answerFirst(ask)
	}
	if ask, ok := messages.ReadNext(request); ok {
		return h.answerNext(ask)
	}
	return h.refuse(api.Generic)
}

// hearing is of one request, at a desk and a time.
type hearing struct {
	Means
	desk *Desk
	now  int64
}

func (h *hearing) refuse(code int) []byte {
	return messages.AppendRefusal(h.ToReply[:0], h.now, code)
}

// isFar tells whether a client's time is more than skew apart from now.
func (h *hearing) isFar(time int64) bool {
	return saturate.Apart(h.now, time) > h.desk.skew
}

// isAhead tells whether a time is yet to come, by a clock that may be skew behind.
func (h *hearing) isAhead(time int64) bool {
	return time > saturate.Sum(h.now, h.desk.skew)
}

// draw fills in what of a reply is drawn. It is not ok, and nothing is drawn, if too few draws are left for that.
func (h *hearing) draw(reply *messages.Reply) (ok bool) {
	var drawn [3]uint64
	ok = h.desk.draws.Fill(drawn[:])
	reply.Session, reply.TicketDraw, reply.PartDraw = drawn[0], drawn[1], drawn[2]
	return ok
}
