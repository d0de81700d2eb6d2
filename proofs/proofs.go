// Package proofs: the proofs that a desk remembers, lest one be shown twice.
package proofs

import (
	"slices"

	"warden/api"
	"warden/messages"
)

// Proofs has some proofs, in itself: a copy of it is a memory of its own, and an empty one is ready.
type Proofs struct {
	room  [api.MaxRepeats]messages.Proof
	count int
}

// Count tells how many are remembered.
func (p *Proofs) Count() int {
	return p.count
}

// Forget forgets all proofs whose times are far.
func (p *Proofs) Forget(isFar func(time int64) bool) {
	near := slices.DeleteFunc(p.remembered(), func(proof messages.Proof) bool {
		return isFar(proof.Time)
	})
	p.count = len(near)
}

// Has tells whether a proof is remembered.
func (p *Proofs) Has(proof messages.Proof) bool {
	return slices.Contains(p.remembered(), proof)
}

// Add remembers a proof. It is not ok, if there is no room for it.
func (p *Proofs) Add(proof messages.Proof) (ok bool) {
	if p.count == len(p.room) {
		return false
	}
	p.room[p.count] = proof
	p.count++
	return true
}

func (p *Proofs) remembered() []messages.Proof {
	return p.room[:p.count]
}
