// Package messages: requests, tickets, proofs and replies, as bytes and as what they say.
package messages

import (
	"warden/api"
	"warden/boxes"
	"warden/names"
)

// What requests begin with.
const (
	firstRequest = 10
	nextRequest  = 12
)

// Sealed is something sealed, beside the number of the key.
type Sealed struct {
	Number int64
	Bytes  []byte
}

// First is a first request.
type First struct {
	Client, Service                   string
	Nonce, From, Till, Rtime, Options int64
	HasPre                            bool
	Pre                               Sealed
}

// Ticket is a ticket that is not opened yet.
type Ticket struct {
	Service string
	Sealed
}

// Next is a next request.
type Next struct {
	Ticket                      Ticket
	Proof                       []byte
	Service                     string
	Nonce, Till, Rtime, Options int64
}

// ReadFirst reads a first request. What is sealed in it is a part of request, no copy.
func ReadFirst(request []byte) (ask First, ok bool) {
	in := begin(request, firstRequest)
	ask.Client = takeName(&in)
	ask.Service = takeName(&in)
	boxes.TakeNumbers(&in, &ask.Nonce, &ask.From, &ask.Till, &ask.Rtime, &ask.Options)
	pre := in.List()
	if !pre.Empty() {
		ask.HasPre = true
		ask.Pre = takeSealed(&pre)
	}
	if !pre.Done() || !in.Done() {
		return First{}, false
	}
	return ask, true
}

// ReadNext reads a next request. What is sealed in it is a part of request, no copy.
func ReadNext(request []byte) (ask Next, ok bool) {
	in := begin(request, nextRequest)
	ticket := in.List()
	ask.Ticket.Service = takeName(&ticket)
	ask.Ticket.Sealed = takeSealed(&ticket)
	ask.Proof = in.Text()
	ask.Service = takeName(&in)
	boxes.TakeNumbers(&in, &ask.Nonce, &ask.Till, &ask.Rtime, &ask.Options)
	if !ticket.Done() || !in.Done() {
		return Next{}, false
	}
	return ask, true
}

// begin takes the number that tells what a request is, and gives a reader of the rest.
func begin(request []byte, due int64) boxes.Reader {
	in := boxes.ReadList(request)
	var kind int64
	boxes.TakeNumbers(&in, &kind)
	in.Need(kind == due && len(request) <= api.MaxRequest)
	return in
}

func takeName(in *boxes.Reader) string {
	name := string(in.Text())
	in.Need(names.IsName(name))
	return name
}

func takeSealed(in *boxes.Reader) (sealed Sealed) {
	boxes.TakeNumbers(in, &sealed.Number)
	sealed.Bytes = in.Text()
	return sealed
}
