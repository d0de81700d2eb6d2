// Package book: the entries of clients and services, by name.
package book

import (
	"slices"
	"strings"

	"warden/api"
	"warden/names"
)

const allFlags = api.MustPre | api.MayRenew | api.MayForward | api.MayProxy | api.MayPostdate | api.Off

// Policy is what an entry allows.
type Policy struct {
	Life, Renew, Expire int64
	Flags               int
}

// Entry is of a client or a service.
type Entry struct {
	Name   string
	Number int // of the key, 1 for the first one
	Key    uint64
	Before uint64 // the key of the number ahead; there is none, if Number is 1
	Policy
}

// KeyOf gives the key of a number, if the entry keeps it.
func (e *Entry) KeyOf(number int64) (key uint64, ok bool) {
	newest := int64(e.Number)
	switch {
	case number == newest:
		return e.Key, true
	case number == newest-1 && number > 0:
		return e.Before, true
	}
	return 0, false
}

// Has tells whether all of some flags are set.
func (p *Policy) Has(flags int) bool {
	return p.Flags&flags == flags
}

// IsOver tells whether a time is at Expire or behind it.
func (p *Policy) IsOver(now int64) bool {
	return p.Expire != 0 && now >= p.Expire
}

// Book has its entries, sorted by name, in itself: a copy of a book is a book of its own, and an empty one is ready.
type Book struct {
	room  [api.MaxEntries]Entry
	count int
}

// Find gives the entry of a name.
func (b *Book) Find(name string) (entry Entry, ok bool) {
	at, ok := b.place(name)
	if !ok {
		return Entry{}, false
	}
	return b.room[at], true
}

// Names gives the names of all entries, sorted.
func (b *Book) Names() []string {
	out := make([]string, b.count)
	for i, entry := range b.entries() {
		out[i] = entry.Name
	}
	return out
}

// Numbers gives the key numbers of all entries, in the order of their names.
func (b *Book) Numbers() []int {
	out := make([]int, b.count)
	for i, entry := range b.entries() {
		out[i] = entry.Number
	}
	return out
}

func (b *Book) entries() []Entry {
	return b.room[:b.count]
}

// place tells where the entry of a name is, or would be.
func (b *Book) place(name string) (at int, ok bool) {
	return slices.BinarySearchFunc(b.entries(), name, func(entry Entry, name string) int {
		return strings.Compare(entry.Name, name)
	})
}

// Change does to the book what a says.
func (b *Book) Change(a api.Admin) api.Errno {
	switch a.Kind {
	case api.Add:
		return b.add(a)
	case api.Delete:
		return b.remove(a.Name)
	case api.Rekey:
		return b.rekey(a.Name, a.Key)
	case api.Repolicy:
		return b.repolicy(a.Name, policyOf(a))
	}
	return api.ErrArg
}

func policyOf(a api.Admin) Policy {
	return Policy{Life: a.Life, Renew: a.Renew, Expire: a.Expire, Flags: a.Flags}
}

func (p Policy) mayBe() bool {
	return p.Life >= 0 && p.Renew >= 0 && p.Flags&^allFlags == 0
}

func (b *Book) add(a api.Admin) api.Errno {
	policy := policyOf(a)
	at, there := b.place(a.Name)
	switch {
	case !names.IsName(a.Name):
		return api.ErrName
	case !policy.mayBe():
		return api.ErrArg
	case there:
		return api.ErrThere
	case b.count == len(b.room):
		return api.ErrFull
	}
	// A copy of the name, lest it keep a longer text that it was cut from.
	entry := Entry{Name: strings.Clone(a.Name), Number: 1, Key: a.Key, Policy: policy}
	copy(b.room[at+1:], b.room[at:b.count])
	b.room[at] = entry
	b.count++
	return api.OK
}

func (b *Book) remove(name string) api.Errno {
	at, ok := b.place(name)
	if !ok {
		return api.ErrNone
	}
	copy(b.room[at:], b.room[at+1:b.count])
	b.count--
	// Lest the keys of an entry that is no more lie on behind the others.
	b.room[b.count] = Entry{}
	return api.OK
}

func (b *Book) rekey(name string, key uint64) api.Errno {
	at, ok := b.place(name)
	if !ok {
		return api.ErrNone
	}
	entry := &b.room[at]
	entry.Number++
	entry.Before, entry.Key = entry.Key, key
	return api.OK
}

func (b *Book) repolicy(name string, policy Policy) api.Errno {
	at, ok := b.place(name)
	if !ok {
		return api.ErrNone
	}
	if !policy.mayBe() {
		return api.ErrArg
	}
	b.room[at].Policy = policy
	return api.OK
}
