// Package quick: a desk that remembers what it looked up, and uses its buffers again and again.
package quick

import (
	"bytes"

	"warden/api"
	"warden/book"
	"warden/buffers"
	"warden/desk"
	"warden/lookups"
)

// Desk is a desk, with the entries that it looked up and with its buffers. A copy of it is a desk of its own.
type Desk struct {
	desk    desk.Desk
	lookups lookups.Lookups
	pool    buffers.Pool
}

// New makes a desk with an empty book.
func New(skew int, draws []byte) (Desk, api.Errno) {
	made, errno := desk.New(skew, draws)
	return Desk{desk: made}, errno
}

// Admin does something to the book.
func (d *Desk) Admin(a api.Admin) api.Errno {
	errno := d.desk.Admin(a)
	if errno == api.OK {
		// What is remembered is of a book that is no more.
		d.lookups.Forget()
	}
	return errno
}

// Answer answers a request. The reply is a copy: the buffer that it was written into goes to others.
func (d *Desk) Answer(now int64, request []byte) []byte {
	opened := d.pool.Take()
	defer opened.GiveBack()
	reply := d.pool.Take()
	defer reply.GiveBack()
	means := desk.Means{Finder: d, ToOpen: opened.Room(), ToReply: reply.Room()}
	return bytes.Clone(d.desk.AnswerBy(means, now, request))
}

// Find finds an entry: one that is remembered, or else one of the book, which is remembered from then on.
func (d *Desk) Find(name string) (entry book.Entry, ok bool) {
	if entry, ok = d.lookups.Find(name); ok {
		return entry, true
	}
	if entry, ok = d.desk.Find(name); ok {
		d.lookups.Remember(entry)
	}
	return entry, ok
}

// State tells what there is.
func (d *Desk) State() api.State {
	return d.desk.State()
}

// Pool tells of buffers and what is remembered.
func (d *Desk) Pool() api.Pool {
	return api.Pool{Buffers: buffers.Count, Free: d.pool.Free(), Looked: d.lookups.Count()}
}
