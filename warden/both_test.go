package warden_test

import (
	"bytes"
	"math/rand"
	"slices"
	"testing"

	"warden/api"
	"warden/warden"
)

// teller is a desk that is told one thing after the other.
type teller interface {
	Admin(a api.Admin) api.Errno
	Answer(now int64, request []byte) []byte
	State() api.State
}

// both is a plain desk and a quick one: they are told the same, and must say the same. So every test of a desk is one of both.
type both struct {
	t     *testing.T
	plain *warden.Plain
	quick *warden.Quick
	jobs  []api.Job
	dones []api.Done
}

// newDesk makes both desks. What they are told is told to other quick desks when the test ends, cut into batches.
func newDesk(t *testing.T, skew int, draws []byte) *both {
	t.Helper()
	b := &both{t: t, plain: newPlain(t, skew, draws), quick: newQuick(t, skew, draws)}
	draws = bytes.Clone(draws)
	t.Cleanup(func() {
		for name, cut := range cuts() {
			b.replay(name, newQuick(t, skew, draws), cut)
		}
	})
	return b
}

func newPlain(t *testing.T, skew int, draws []byte) *warden.Plain {
	t.Helper()
	p, e := warden.NewPlain(skew, draws)
	if p == nil || e != api.OK {
		t.Fatalf("P5: NewPlain(%d, ..) = %v, %d", skew, p, e)
	}
	return p
}

func newQuick(t *testing.T, skew int, draws []byte) *warden.Quick {
	t.Helper()
	q, e := warden.NewQuick(skew, draws)
	if q == nil || e != api.OK {
		t.Fatalf("P11: NewQuick(%d, ..) = %v, %d", skew, q, e)
	}
	return q
}

// noDesk gives what comes beside an error.
func noDesk(t *testing.T) *both {
	return &both{t: t}
}

// zeroDesk gives desks that no call made.
func zeroDesk(t *testing.T) *both {
	return &both{t: t, plain: new(warden.Plain), quick: new(warden.Quick)}
}

// copied gives copies of both desks.
func (b *both) copied() *both {
	plain, quick := *b.plain, *b.quick
	return &both{t: b.t, plain: &plain, quick: &quick}
}

func (b *both) Admin(a api.Admin) api.Errno {
	b.t.Helper()
	errno := b.plain.Admin(a)
	// A job of the kind 0 would be a request.
	if a.Kind != 0 {
		b.same(api.Job{Admin: a}, api.Done{Errno: errno})
	}
	return errno
}

func (b *both) Answer(now int64, request []byte) []byte {
	b.t.Helper()
	reply := b.plain.Answer(now, request)
	b.same(api.Job{Now: now, Request: request}, api.Done{Reply: reply})
	return reply
}

func (b *both) State() api.State {
	b.t.Helper()
	s := b.plain.State()
	wantQuickState(b.t, b.quick, s)
	return s
}

// same wants that the quick desk says of a job what the plain one said.
func (b *both) same(job api.Job, want api.Done) {
	b.t.Helper()
	wantBatch(b.t, b.quick, []api.Job{job}, []api.Done{want})
	job.Request, want.Reply = bytes.Clone(job.Request), bytes.Clone(want.Reply)
	b.jobs, b.dones = append(b.jobs, job), append(b.dones, want)
}

// cuts gives ways to cut jobs into batches: how many jobs the next one has, of those that are left.
func cuts() map[string]func(left int) int {
	r := rand.New(rand.NewSource(47))
	return map[string]func(left int) int{
		"all at once": func(left int) int { return min(left, api.MaxBatch) },
		"anyhow":      func(left int) int { return min(left, r.Intn(api.MaxBatch+1)) },
	}
}

// replay tells a quick desk all jobs, in batches, and wants that it says the same.
func (b *both) replay(name string, quick *warden.Quick, cut func(left int) int) {
	b.t.Helper()
	for at := 0; at < len(b.jobs); {
		n := cut(len(b.jobs) - at)
		if !wantBatch(b.t, quick, b.jobs[at:at+n], b.dones[at:at+n]) {
			b.t.Fatalf("P11: so it is behind %d jobs, %s", at, name)
		}
		at += n
	}
	wantQuickState(b.t, quick, b.plain.State())
}

func sameDone(a, b api.Done) bool {
	return bytes.Equal(a.Reply, b.Reply) && (a.Reply == nil) == (b.Reply == nil) && a.Errno == b.Errno
}

// wantBatch wants what a batch comes to, and that all buffers lie free behind it.
func wantBatch(t *testing.T, q *warden.Quick, jobs []api.Job, want []api.Done) bool {
	t.Helper()
	dones, e := q.Batch(jobs)
	if e != api.OK || len(dones) != len(want) {
		t.Errorf("P11: Batch of %d jobs = %d, %d", len(jobs), len(dones), e)
		return false
	}
	wantFree(t, q)
	same := slices.EqualFunc(dones, want, sameDone)
	for i := range dones {
		if !sameDone(dones[i], want[i]) {
			t.Errorf("P11: job %d, %+v at %d with %s: %s, %v, want %s, %v", i, jobs[i].Admin, jobs[i].Now, show(jobs[i].Request),
				show(dones[i].Reply), dones[i], show(want[i].Reply), want[i])
		}
	}
	return same
}

// wantFree wants of a pool what must be so between batches.
func wantFree(t *testing.T, q *warden.Quick) {
	t.Helper()
	p := q.Pool()
	if p.Buffers < 1 || p.Buffers > api.MaxBuffers || p.Free != p.Buffers || p.Looked < 0 || p.Looked > api.MaxLook {
		t.Errorf("P12: Pool() = %+v", p)
	}
	if entries := len(q.State().Names); p.Looked > entries {
		t.Errorf("P12: Looked is %d, of %d entries", p.Looked, entries)
	}
}

func wantQuickState(t *testing.T, q *warden.Quick, want api.State) {
	t.Helper()
	if s := q.State(); !sameState(s, want) {
		t.Errorf("P11: State() of a quick desk = %+v, want %+v", s, want)
	}
}
