package warden_test

import (
	"bytes"
	"slices"
	"testing"

	"warden/api"
	"warden/warden"
)

// manyJobs gives jobs of all kinds, with what the desk of the usual entries says of them.
func manyJobs() (jobs []api.Job, want []api.Done) {
	jobs = []api.Job{
		requestJob(1000, plainFirst.write()), requestJob(1000, plainFirst.write()), requestJob(1000, countedNext(1)), requestJob(1000, countedNext(1)),
		requestJob(1000, nil), requestJob(1000, nil), requestJob(1000, countedNext(2)), {Admin: api.Admin{Kind: api.Add, Name: "bo"}}, {Admin: api.Admin{Kind: 9}},
	}
	want = []api.Done{
		firstReply(0), firstReply(3), nextReply(6), refused(1000, api.Repeat),
		refused(1000, api.Generic), refused(1000, api.Generic), nextReply(9), {}, {Errno: api.ErrArg},
	}
	return jobs, want
}

func mustBatch(t *testing.T, q *warden.Quick, jobs []api.Job) []api.Done {
	t.Helper()
	dones, e := q.Batch(jobs)
	if e != api.OK || len(dones) != len(jobs) {
		t.Fatalf("P11: Batch of %d jobs = %v, %d", len(jobs), dones, e)
	}
	return dones
}

func wantDones(t *testing.T, what string, dones, want []api.Done) {
	t.Helper()
	if !slices.EqualFunc(dones, want, sameDone) {
		t.Errorf("P2: %s: %v, want %v", what, dones, want)
	}
}

func TestJobsStayTheirOwners(t *testing.T) {
	jobs, _ := manyJobs()
	// With spare room behind the jobs, and behind each request.
	whole := append(jobs, make([]api.Job, 20)...)
	var checks []func(string)
	for i := range whole {
		request, check := roomy(t, whole[i].Request)
		whole[i].Request, checks = request, append(checks, check)
	}
	before := slices.Clone(whole)
	for _, n := range []int{0, 1, len(jobs), api.MaxBatch, api.MaxBatch + 1} {
		quickOf(t, 240, usual(0)...).Batch(whole[:n])
		for _, check := range checks {
			check("Batch")
		}
		for i, job := range whole {
			same := job.Admin == before[i].Admin && job.Now == before[i].Now && len(job.Request) == len(before[i].Request)
			if !same || len(job.Request) > 0 && &job.Request[0] != &before[i].Request[0] {
				t.Errorf("P2: Batch of %d changed job %d", n, i)
			}
		}
	}
}

func TestJobsThatAreChangedBehindTheCall(t *testing.T) {
	draws := drawBytes(480)
	q := newQuick(t, 10, draws)
	spoil(draws)
	wantBatch(t, q, adminJobs(usual(0)...), make([]api.Done, 3))
	jobs, want := manyJobs()
	dones := mustBatch(t, q, jobs)
	for i := range jobs {
		spoil(jobs[i].Request)
		jobs[i] = api.Job{Admin: api.Admin{Kind: api.Delete, Name: "al"}}
	}
	wantDones(t, "replies behind requests that are changed", dones, want)
	wantBatch(t, q, []api.Job{requestJob(1000, countedNext(1)), requestJob(1000, countedNext(3))}, []api.Done{refused(1000, api.Repeat), nextReply(12)})
	wantQuickState(t, q, api.State{Names: []string{"al", "bo", "tgs", "web"}, Numbers: []int{1, 1, 1, 1}, Repeats: 3, Left: 480 - 5*24})
}

// spoilDones writes into all of a list that came out and of the lists in it, spare room too.
func spoilDones(dones []api.Done) {
	for _, done := range dones {
		spoil(done.Reply)
		_ = append(done.Reply, 1, 2, 3)
	}
	whole := dones[:cap(dones)]
	for i := range whole {
		whole[i] = api.Done{Reply: []byte("spoilt"), Errno: 99}
	}
}

func TestRepliesOfBatchesAreTheCallers(t *testing.T) {
	q := quickOf(t, 2400, usual(0)...)
	earlier := mustBatch(t, q, []api.Job{requestJob(1000, plainFirst.write()), requestJob(1000, nil)})
	kept := []api.Done{firstReply(0), refused(1000, api.Generic)}
	for i := range 6 {
		dones := mustBatch(t, q, []api.Job{requestJob(1000, plainFirst.write()), requestJob(1000, countedNext(int64(i))), requestJob(1000, countedNext(int64(i))), {Admin: api.Admin{Kind: 9}}})
		wantDones(t, "behind replies that were written into", dones, []api.Done{firstReply(3 + 6*i), nextReply(6 + 6*i), refused(1000, api.Repeat), {Errno: api.ErrArg}})
		spoilDones(dones)
	}
	wantDones(t, "what came out earlier", earlier, kept)
	wantQuickState(t, q, api.State{Names: []string{"al", "tgs", "web"}, Numbers: []int{1, 1, 1}, Repeats: 6, Left: 2400 - 13*24})
	wantPool(t, "behind replies that were written into", q, 3)
}

func TestNoTwoRepliesShareMemory(t *testing.T) {
	jobs, want := manyJobs()
	for spoilt := range jobs {
		q := quickOf(t, 2400, usual(0)...)
		dones := mustBatch(t, q, jobs)
		later := mustBatch(t, q, []api.Job{requestJob(1000, plainFirst.write()), requestJob(7, nil)})
		spoil(dones[spoilt].Reply)
		for i := range dones {
			if i != spoilt && !sameDone(dones[i], want[i]) {
				t.Errorf("P2: the replies %d and %d of a batch share memory", spoilt, i)
			}
		}
		wantDones(t, "a later batch", later, []api.Done{firstReply(12), refused(7, api.Generic)})
	}
	// Two lists of one batch, and of two, are not one.
	q := quickOf(t, 240, usual(0)...)
	one, two := mustBatch(t, q, make([]api.Job, 3)), mustBatch(t, q, make([]api.Job, 3))
	spoilDones(one)
	wantDones(t, "another list", two, slices.Repeat([]api.Done{refused(0, api.Generic)}, 3))
}

func TestListsOfAQuickStateAreTheCallers(t *testing.T) {
	q := quickOf(t, 240, usual(0)...)
	want := api.State{Names: []string{"al", "tgs", "web"}, Numbers: []int{1, 1, 1}, Left: 240}
	other := q.State()
	for range 2 {
		s := q.State()
		for i := range s.Names[:cap(s.Names)] {
			s.Names[:cap(s.Names)][i] = "spoilt"
		}
		for i := range s.Numbers[:cap(s.Numbers)] {
			s.Numbers[:cap(s.Numbers)][i] = -9
		}
		wantQuickState(t, q, want)
	}
	wantBatch(t, q, adminJobs(api.Admin{Name: "b"}, api.Admin{Kind: api.Rekey, Name: "al"}), make([]api.Done, 2))
	if !sameState(other, want) {
		t.Errorf("P2: a State that came out is changed: %+v, want %+v", other, want)
	}
	wantBatch(t, q, []api.Job{requestJob(1000, countedNext(1))}, []api.Done{nextReply(0)})
}

func TestQuickDesksSideBySide(t *testing.T) {
	draws := drawBytes(240)
	one, two, plain := newQuick(t, 10, draws), newQuick(t, 10, draws), newPlain(t, 10, draws)
	entries := adminJobs(usual(0)...)
	wantBatch(t, one, entries, make([]api.Done, 3))
	wantQuickState(t, two, api.State{Left: 240})
	wantState(t, plain, api.State{Left: 240})
	wantBatch(t, two, entries, make([]api.Done, 3))
	for _, job := range entries {
		wantAdmin(t, plain, job.Admin, api.OK)
	}
	jobs := []api.Job{requestJob(1000, plainFirst.write()), requestJob(1000, countedNext(1))}
	want := []api.Done{firstReply(0), nextReply(3)}
	dones := mustBatch(t, one, jobs)
	wantPool(t, "a desk beside one that looked up", two, 0)
	wantBatch(t, one, adminJobs(api.Admin{Kind: api.Delete, Name: "al"}, api.Admin{Kind: api.Rekey, Name: "tgs", Key: 5}), make([]api.Done, 2))
	// What one has done, and what was written into its replies, is nothing to the others.
	wantDones(t, "one desk", dones, want)
	spoilDones(dones)
	wantBatch(t, two, jobs, want)
	wantAnswer(t, "a plain desk beside them", plain, 1000, jobs[0].Request, want[0].Reply)
	wantAnswer(t, "a plain desk beside them", plain, 1000, jobs[1].Request, want[1].Reply)
	wantBatch(t, one, jobs, []api.Done{refused(1000, api.Unknown), refused(1000, api.Repeat)})
	wantBatch(t, two, jobs, []api.Done{firstReply(6), refused(1000, api.Repeat)})
	wantAnswer(t, "a plain desk beside them", plain, 1000, jobs[0].Request, firstReply(6).Reply)
	wantQuickState(t, one, api.State{Names: []string{"tgs", "web"}, Numbers: []int{2, 1}, Repeats: 1, Left: 240 - 48})
	wantQuickState(t, two, api.State{Names: []string{"al", "tgs", "web"}, Numbers: []int{1, 1, 1}, Repeats: 1, Left: 240 - 72})
	wantState(t, plain, api.State{Names: []string{"al", "tgs", "web"}, Numbers: []int{1, 1, 1}, Repeats: 1, Left: 240 - 72})
}

func TestACopyOfAQuickDesk(t *testing.T) {
	q := quickOf(t, 240, usual(0)...)
	first := []api.Job{requestJob(1000, plainFirst.write())}
	wantBatch(t, q, first, []api.Done{firstReply(0)})
	copied := *q
	wantBatch(t, &copied, append(adminJobs(api.Admin{Kind: api.Delete, Name: "al"}), first...), []api.Done{{}, refused(1000, api.Unknown)})
	wantPool(t, "a desk that was copied", q, 2)
	wantBatch(t, q, first, []api.Done{firstReply(3)})
	wantBatch(t, &copied, []api.Job{requestJob(1000, bytes.Repeat([]byte{48}, 9))}, []api.Done{refused(1000, api.Generic)})
	wantQuickState(t, &copied, api.State{Names: []string{"tgs", "web"}, Numbers: []int{1, 1}, Left: 216})
}
