package proofs

import (
	"testing"

	"warden/api"
	"warden/messages"
)

func proof(client string, time, count int64) messages.Proof {
	return messages.Proof{Client: client, Time: time, Count: count}
}

func wantCount(t *testing.T, p *Proofs, want int) {
	t.Helper()
	if p.Count() != want {
		t.Errorf("P6: Count() = %d, want %d", p.Count(), want)
	}
}

// full gives a memory without room: proofs of al, of the times 0 to 7.
func full(t *testing.T) Proofs {
	t.Helper()
	var p Proofs
	for i := range int64(api.MaxRepeats) {
		wantCount(t, &p, int(i))
		if !p.Add(proof("al", i, 1)) {
			t.Errorf("P9: no room for proof %d", i)
		}
	}
	return p
}

func TestProofsAreKnownByAllTheirParts(t *testing.T) {
	var p Proofs
	if p.Has(messages.Proof{}) {
		t.Error("P9: an empty memory has a proof")
	}
	p.Add(proof("al", 5, 1))
	if !p.Has(proof("al", 5, 1)) {
		t.Error("P9: a proof is not remembered")
	}
	for _, other := range []messages.Proof{proof("bo", 5, 1), proof("al", 6, 1), proof("al", 5, 2), proof("al", 1, 5), {}} {
		if p.Has(other) {
			t.Errorf("P9: %+v is remembered", other)
		}
	}
}

func TestNoMoreThanMaxRepeats(t *testing.T) {
	p := full(t)
	if p.Add(proof("bo", 9, 9)) || p.Has(proof("bo", 9, 9)) {
		t.Error("P9: one proof more than MaxRepeats is remembered")
	}
	wantCount(t, &p, api.MaxRepeats)
}

func TestFarProofsAreForgotten(t *testing.T) {
	for gone := range 1 << api.MaxRepeats {
		p := full(t)
		p.Forget(func(time int64) bool { return gone>>time&1 == 1 })
		kept := 0
		for i := range int64(api.MaxRepeats) {
			near := gone>>i&1 == 0
			if near {
				kept++
			}
			if p.Has(proof("al", i, 1)) != near {
				t.Errorf("P9: after Forget of the bits %b the proof %d is remembered: %v", gone, i, !near)
			}
		}
		wantCount(t, &p, kept)
		for i, lies := range p.room {
			if i >= kept && lies != (messages.Proof{}) {
				t.Errorf("a forgotten proof lies on at %d", i)
			}
		}
		if p.Add(proof("bo", 9, 9)) != (gone != 0) {
			t.Errorf("P9: after Forget of the bits %b there is room: %v", gone, gone == 0)
		}
	}
}

func TestACopyIsAMemoryOfItsOwn(t *testing.T) {
	p := full(t)
	copied := p
	copied.Forget(func(time int64) bool { return true })
	wantCount(t, &copied, 0)
	wantCount(t, &p, api.MaxRepeats)
	if !p.Has(proof("al", 3, 1)) {
		t.Error("P2: what a copy forgets is forgotten")
	}
}
