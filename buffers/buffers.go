// Package buffers: memory that is used again and again.
package buffers

import "warden/api"

// Count is how many buffers there are: a request takes one for what it opens and one for its reply.
const Count = 2

// size suffices for all that is opened, which has at most api.MaxPlain bytes, and for every reply: names and numbers are so short that none is longer than a request may be.
const size = api.MaxRequest

// Buffer is room for some bytes.
type Buffer struct {
	room  [size]byte
	taken bool
}

// Pool has the buffers in itself: a copy of a pool is one of its own, and in an empty one all of them lie free.
type Pool struct {
	buffers [Count]Buffer
}

// Take gives a buffer that lies free.
func (p *Pool) Take() *Buffer {
	for i := range p.buffers {
		if buffer := &p.buffers[i]; !buffer.taken {
			buffer.taken = true
			return buffer
		}
	}
	// Who takes more than there are gets one beside them, which is nobody's when it goes back.
	return new(Buffer)
}

// Free tells how many buffers lie free.
func (p *Pool) Free() (free int) {
	for i := range p.buffers {
		if !p.buffers[i].taken {
			free++
		}
	}
	return free
}

// Room gives the buffer's memory, with nothing in it yet.
func (b *Buffer) Room() []byte {
	return b.room[:0]
}

// GiveBack lays the buffer where it lies free.
func (b *Buffer) GiveBack() {
	// Emptied, lest what a ticket was opened to lie on in it.
	*b = Buffer{}
}
