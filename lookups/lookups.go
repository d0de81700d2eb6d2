// Package lookups: the entries that a desk remembers from looking them up in the book.
package lookups

import (
	"warden/api"
	"warden/book"
)

// Lookups has some entries, in itself: a copy of it is a memory of its own, and an empty one is ready.
type Lookups struct {
	room  [api.MaxLook]book.Entry
	count int
	next  int // where the next entry goes: when there is no more room, the place of the oldest
}

// Count tells how many entries are remembered.
func (l *Lookups) Count() int {
	return l.count
}

// Find gives the entry of a name, if it is remembered.
func (l *Lookups) Find(name string) (entry book.Entry, ok bool) {
	for i := range l.count {
		if l.room[i].Name == name {
			return l.room[i], true
		}
	}
	return book.Entry{}, false
}

// Remember remembers an entry that was not remembered; if there is no room, the oldest gives way.
func (l *Lookups) Remember(entry book.Entry) {
	l.room[l.next] = entry
	l.next = (l.next + 1) % len(l.room)
	l.count = min(l.count+1, len(l.room))
}

// Forget forgets all entries.
func (l *Lookups) Forget() {
	*l = Lookups{}
}
