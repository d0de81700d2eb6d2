package messages

import (
	"warden/boxes"
	"warden/highfirst"
	"warden/seal"
)

// The uses of what is sealed.
const (
	usePre        = 1
	useTicket     = 2
	useFirstReply = 3
	useProof      = 4
	useNextReply  = 5
)

const keySize = 8 // bytes

// Grant is what is in a ticket.
type Grant struct {
	Flags                   int64
	Session                 uint64
	Client                  string
	Auth, Start, End, Renew int64
}

// Proof is what a client shows beside a ticket.
type Proof struct {
	Client      string
	Time, Count int64
}

// OpenPre gives the time that is sealed in pre. Here and below, what opens is written into room, and nothing that comes out is a part of it.
func OpenPre(room []byte, key uint64, sealed []byte) (time int64, ok bool) {
	in := boxes.Read(open(room, key, usePre, sealed))
	boxes.TakeNumbers(&in, &time)
	return time, in.Done()
}

// OpenTicket gives what is sealed in a ticket.
func OpenTicket(room []byte, key uint64, sealed []byte) (grant Grant, ok bool) {
	in := boxes.ReadList(open(room, key, useTicket, sealed))
	boxes.TakeNumbers(&in, &grant.Flags)
	grant.Session = takeKey(&in)
	grant.Client = takeName(&in)
	boxes.TakeNumbers(&in, &grant.Auth, &grant.Start, &grant.End, &grant.Renew)
	return grant, in.Done()
}

// OpenProof gives what is sealed in a proof.
func OpenProof(room []byte, session uint64, sealed []byte) (proof Proof, ok bool) {
	in := boxes.ReadList(open(room, session, useProof, sealed))
	proof.Client = takeName(&in)
	boxes.TakeNumbers(&in, &proof.Time, &proof.Count)
	return proof, in.Done()
}

// open gives the plain, or nothing, in which there is no box at all.
func open(room []byte, key uint64, use int, sealed []byte) []byte {
	plain, _ := seal.Open(room, key, use, sealed)
	return plain
}

func takeKey(in *boxes.Reader) uint64 {
	key := in.Text()
	in.Need(len(key) == keySize)
	return highfirst.Join(uint64(0), key)
}
