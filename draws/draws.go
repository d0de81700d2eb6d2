// Package draws: the numbers that a desk draws, out of bytes that it was given.
package draws

import (
	"bytes"

	"warden/highfirst"
)

// Size is how many bytes one number takes.
const Size = 8

// Draws has the bytes that are left. They are never written into, so that a copy of it draws on its own.
type Draws struct {
	left []byte
}

// Of gives draws out of a copy of data: its owner may change it.
func Of(data []byte) Draws {
	return Draws{left: bytes.Clone(data)}
}

// Left tells how many bytes are left.
func (d *Draws) Left() int {
	return len(d.left)
}

// Fill draws the next numbers, one for each place. It is not ok, and nothing is taken, if too few bytes are left for all of them.
func (d *Draws) Fill(places []uint64) (ok bool) {
	if len(d.left) < Size*len(places) {
		return false
	}
	for i := range places {
		places[i] = highfirst.Join(uint64(0), d.left[:Size])
		d.left = d.left[Size:]
	}
	return true
}
