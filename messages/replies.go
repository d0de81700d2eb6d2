package messages

import (
	"warden/boxes"
	"warden/highfirst"
	"warden/seal"
)

// What replies begin with.
const (
	firstReply = 11
	nextReply  = 13
	refusal    = 30
)

// Key is a key and its number.
type Key struct {
	Number int
	Key    uint64
}

// Reply gives a new ticket, and tells its client of it.
type Reply struct {
	Grant
	Service    string
	ServiceKey Key
	TicketDraw uint64
	Nonce      int64
	PartKey    Key // of the part that is the client's alone
	PartDraw   uint64
}

// ToFirst writes the reply to a first request.
func (r *Reply) ToFirst() []byte {
	return r.write(firstReply, useFirstReply)
}

// ToNext writes the reply to a next request.
func (r *Reply) ToNext() []byte {
	return r.write(nextReply, useNextReply)
}

// Refuse writes a refusal.
func Refuse(now int64, code int) []byte {
	return boxes.AppendList(nil, boxes.AppendNumbers(nil, refusal, now, int64(code)))
}

func (r *Reply) write(kind, use int) []byte {
	in := boxes.AppendNumber(nil, kind)
	in = boxes.AppendText(in, r.Client)
	in = boxes.AppendList(in, r.ticket())
	in = boxes.AppendList(in, appendSealed(nil, r.PartKey, use, r.PartDraw, r.part()))
	return boxes.AppendList(nil, in)
}

func (r *Reply) ticket() []byte {
	grant := boxes.AppendNumber(nil, r.Flags)
	grant = appendKey(grant, r.Session)
	grant = boxes.AppendText(grant, r.Client)
	grant = r.appendTimes(grant)
	ticket := boxes.AppendText(nil, r.Service)
	return appendSealed(ticket, r.ServiceKey, useTicket, r.TicketDraw, boxes.AppendList(nil, grant))
}

func (r *Reply) part() []byte {
	part := appendKey(nil, r.Session)
	part = boxes.AppendNumbers(part, r.Nonce, r.Flags)
	part = r.appendTimes(part)
	part = boxes.AppendText(part, r.Service)
	return boxes.AppendList(nil, part)
}

func (r *Reply) appendTimes(out []byte) []byte {
	return boxes.AppendNumbers(out, r.Auth, r.Start, r.End, r.Renew)
}

func appendKey(out []byte, key uint64) []byte {
	return boxes.AppendText(out, highfirst.Append(nil, key, keySize))
}

// appendSealed puts a key's number behind out, and what plain is sealed to with that key. A ticket's plain and a part are never too long to be sealed: their numbers and names have few bytes.
func appendSealed(out []byte, key Key, use int, draw uint64, plain []byte) []byte {
	sealed, _ := seal.Seal(key.Key, use, draw, plain)
	out = boxes.AppendNumber(out, key.Number)
	return boxes.AppendText(out, sealed)
}
