package messages

import (
	"warden/boxes"
	"warden/highfirst"
	"warden/seal"
)

// What replies begin with.
const (
	firstReply = 11
	nextReply  = 13
	refusal    = 30
)

// Key is a key and its number.
type Key struct {
	Number int
	Key    uint64
}

// Reply gives a new ticket, and tells its client of it.
type Reply struct {
	Grant
	Service    string
	ServiceKey Key
	TicketDraw uint64
	Nonce      int64
	PartKey    Key // of the part that is the client's alone
	PartDraw   uint64
}

// AppendToFirst puts the reply to a first request behind out.
func (r *Reply) AppendToFirst(out []byte) []byte {
	return r.appendTo(out, firstReply, useFirstReply)
}

// AppendToNext puts the reply to a next request behind out.
func (r *Reply) AppendToNext(out []byte) []byte {
	return r.appendTo(out, nextReply, useNextReply)
}

// AppendRefusal puts a refusal behind out.
func AppendRefusal(out []byte, now int64, code int) []byte {
	from := len(out)
	out = boxes.AppendNumbers(out, refusal, now, int64(code))
	return boxes.Wrap(out, from, boxes.List)
}

func (r *Reply) appendTo(out []byte, kind, use int) []byte {
	from := len(out)
	out = boxes.AppendNumber(out, kind)
	out = boxes.AppendText(out, r.Client)
	out = r.appendTicket(out)
	out = r.appendPart(out, use)
	return boxes.Wrap(out, from, boxes.List)
}

func (r *Reply) appendTicket(out []byte) []byte {
	from := len(out)
	out = boxes.AppendText(out, r.Service)
	out = boxes.AppendNumber(out, r.ServiceKey.Number)
	plain := len(out)
	out = boxes.AppendNumber(out, r.Flags)
	out = appendKey(out, r.Session)
	out = boxes.AppendText(out, r.Client)
	out = r.appendTimes(out)
	out = wrapSealed(out, plain, r.ServiceKey.Key, useTicket, r.TicketDraw)
	return boxes.Wrap(out, from, boxes.List)
}

func (r *Reply) appendPart(out []byte, use int) []byte {
	from := len(out)
	out = boxes.AppendNumber(out, r.PartKey.Number)
	plain := len(out)
	out = appendKey(out, r.Session)
	out = boxes.AppendNumbers(out, r.Nonce, r.Flags)
	out = r.appendTimes(out)
	out = boxes.AppendText(out, r.Service)
	out = wrapSealed(out, plain, r.PartKey.Key, use, r.PartDraw)
	return boxes.Wrap(out, from, boxes.List)
}

func (r *Reply) appendTimes(out []byte) []byte {
	return boxes.AppendNumbers(out, r.Auth, r.Start, r.End, r.Renew)
}

func appendKey(out []byte, key uint64) []byte {
	from := len(out)
	out = highfirst.Append(out, key, keySize)
	return boxes.Wrap(out, from, boxes.Text)
}

// wrapSealed makes a list of the boxes behind a place of out, and a text of what that list is sealed to.
func wrapSealed(out []byte, from int, key uint64, use int, draw uint64) []byte {
	out = boxes.Wrap(out, from, boxes.List)
	out = seal.Wrap(out, from, key, use, draw)
	return boxes.Wrap(out, from, boxes.Text)
}
