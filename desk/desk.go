// Package desk: what every desk keeps, whichever way it takes its requests, and how it answers them.
package desk

import (
	"warden/api"
	"warden/book"
	"warden/draws"
	"warden/proofs"
)

// Desk is a book, the draws, the proofs that were shown lately, and how far a client's time may be apart from the desk's. A copy of a desk is a desk of its own.
type Desk struct {
	skew   int64
	draws  draws.Draws
	book   book.Book
	proofs proofs.Proofs
}

// New makes a desk with an empty book.
func New(skew int, data []byte) (Desk, api.Errno) {
	if skew < 0 || skew > api.MaxSkew {
		return Desk{}, api.ErrArg
	}
	return Desk{skew: int64(skew), draws: draws.Of(data)}, api.OK
}

// Admin does something to the book.
func (d *Desk) Admin(a api.Admin) api.Errno {
	return d.book.Change(a)
}

// Find looks an entry up in the book.
func (d *Desk) Find(name string) (entry book.Entry, ok bool) {
	return d.book.Find(name)
}

// State tells what there is.
func (d *Desk) State() api.State {
	return api.State{
		Names:   d.book.Names(),
		Numbers: d.book.Numbers(),
		Repeats: d.proofs.Count(),
		Left:    d.draws.Left(),
	}
}

// Answer answers a request: every entry is looked up anew, and all memory is new.
func (d *Desk) Answer(now int64, request []byte) []byte {
	return d.AnswerBy(Means{Finder: d}, now, request)
}
