// Package warden: tickets for clients and services, by two desks that say the same: see DOC.md.
package warden

import (
	"warden/api"
	"warden/boxes"
	"warden/desk"
	"warden/quick"
	"warden/seal"
)

// Plain is a desk that takes one request after the other.
type Plain struct {
	desk desk.Desk
}

// Quick is a desk that takes them in batches.
type Quick struct {
	desk quick.Desk
}

// Hash gives the hash of some bytes (P3).
func Hash(data []byte) uint64 { return seal.Hash(data) }

// Seal seals some bytes (P3).
func Seal(key uint64, use int, draw uint64, plain []byte) ([]byte, api.Errno) {
	return seal.Seal(key, use, draw, plain)
}

// Unseal opens what was sealed (P3).
func Unseal(key uint64, use int, sealed []byte) ([]byte, api.Errno) {
	return seal.Unseal(key, use, sealed)
}

// Show tells what is in a box (P4).
func Show(box []byte) (string, api.Errno) {
	if len(box) > api.MaxRequest {
		return "", api.ErrBox
	}
	shown, ok := boxes.Show(box)
	if !ok {
		return "", api.ErrBox
	}
	return shown, api.OK
}

// NewPlain makes a plain desk (P5).
func NewPlain(skew int, draws []byte) (*Plain, api.Errno) {
	made, errno := desk.New(skew, draws)
	if errno != api.OK {
		return nil, errno
	}
	return &Plain{desk: made}, api.OK
}

// Admin does something to the book (P5).
func (p *Plain) Admin(a api.Admin) api.Errno {
	if p == nil {
		// What NewPlain gives beside an error has no book.
		return api.ErrArg
	}
	return p.desk.Admin(a)
}

// Answer answers a request (P7 to P10).
func (p *Plain) Answer(now int64, request []byte) []byte {
	if p == nil {
		// It has no book, so it answers as a desk with an empty one.
		p = new(Plain)
	}
	return p.desk.Answer(now, request)
}

// State tells what there is (P6).
func (p *Plain) State() api.State {
	if p == nil {
		return api.State{}
	}
	return p.desk.State()
}

// NewQuick makes a quick desk (P11).
func NewQuick(skew int, draws []byte) (*Quick, api.Errno) {
	made, errno := quick.New(skew, draws)
	if errno != api.OK {
		return nil, errno
	}
	return &Quick{desk: made}, api.OK
}

// Batch does some jobs (P11).
func (q *Quick) Batch(jobs []api.Job) ([]api.Done, api.Errno) {
	if q == nil {
		// It says what a plain desk that is none says.
		return quick.Batch((*Plain)(nil), jobs)
	}
	return quick.Batch(&q.desk, jobs)
}

// State tells what there is (P11).
func (q *Quick) State() api.State {
	if q == nil {
		return api.State{}
	}
	return q.desk.State()
}

// Pool tells of buffers and what is remembered (P12).
func (q *Quick) Pool() api.Pool {
	if q == nil {
		// It remembers nothing, so it tells what a fresh desk does.
		q = new(Quick)
	}
	return q.desk.Pool()
}
