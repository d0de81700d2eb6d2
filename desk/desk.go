// Package desk: what every desk keeps, whichever way it takes its requests.
package desk

import (
	"warden/api"
	"warden/book"
	"warden/draws"
)

// Desk is a book, the draws, and how far a client's time may be apart from the desk's. A copy of a desk is a desk of its own.
type Desk struct {
	skew  int
	draws draws.Draws
	book  book.Book
}

// New makes a desk with an empty book.
func New(skew int, data []byte) (Desk, api.Errno) {
	if skew < 0 || skew > api.MaxSkew {
		return Desk{}, api.ErrArg
	}
	return Desk{skew: skew, draws: draws.Of(data)}, api.OK
}

// Admin does something to the book.
func (d *Desk) Admin(a api.Admin) api.Errno {
	return d.book.Change(a)
}

// State tells what there is.
func (d *Desk) State() api.State {
	return api.State{
		Names:   d.book.Names(),
		Numbers: d.book.Numbers(),
		Left:    d.draws.Left(),
	}
}
