package warden_test

import (
	"bytes"
	"fmt"
	"math"
	"math/rand"
	"slices"
	"testing"

	"warden/api"
	"warden/warden"
)

func requestJob(now int64, request []byte) api.Job { return api.Job{Now: now, Request: request} }

// adminJobs gives jobs that do things to the book; an entry without a kind is added.
func adminJobs(admins ...api.Admin) (jobs []api.Job) {
	for _, a := range admins {
		if a.Kind == 0 {
			a.Kind = api.Add
		}
		jobs = append(jobs, api.Job{Admin: a})
	}
	return jobs
}

// quickOf gives a quick desk with the skew 10 and some entries.
func quickOf(t *testing.T, draws int, entries ...api.Admin) *warden.Quick {
	t.Helper()
	q := newQuick(t, 10, drawBytes(draws))
	for batch := range slices.Chunk(adminJobs(entries...), api.MaxBatch) {
		wantBatch(t, q, batch, make([]api.Done, len(batch)))
	}
	return q
}

func wantPool(t *testing.T, what string, q *warden.Quick, looked int) {
	t.Helper()
	wantFree(t, q)
	if p := q.Pool(); p.Looked != looked {
		t.Errorf("P12: %s: Looked is %d, want %d", what, p.Looked, looked)
	}
}

func refused(now, code int64) api.Done { return api.Done{Reply: makeRefusal(now, code)} }

func replied(reply []byte) api.Done { return api.Done{Reply: reply} }

// firstReply is the reply to plainFirst at 1000, with the draws from a place on.
func firstReply(at int) api.Done {
	return replied(toTgs(grant{flags: 32, client: "al", auth: 1000, start: 1000, end: 1100}).drawnFrom(at).toFirst())
}

// nextReply is the reply to plainNext at 1000, with the draws from a place on.
func nextReply(at int) api.Done { return replied(toWeb(0).drawnFrom(at).toNext()) }

// countedNext is plainNext with a proof of another count.
func countedNext(count int64) []byte {
	ask := plainNext(plainGrant)
	ask.proof = makeProof(50, "al", 1000, count)
	return ask.write()
}

func TestSkewsOfQuickDesks(t *testing.T) {
	for _, skew := range []int{0, 1, api.MaxSkew - 1, api.MaxSkew} {
		far := int64(skew)
		q := newQuick(t, skew, drawBytes(48))
		ask := plainFirst
		ask.from = 1000 + far
		late := plainFirst
		late.from = 1001 + far
		jobs := append(adminJobs(usual(0)...), requestJob(1000, ask.write()), requestJob(1000, late.write()))
		wantBatch(t, q, jobs, []api.Done{{}, {}, {}, firstReply(0), refused(1000, api.CannotPostdate)})
	}
}

func TestBatchesOfEveryLength(t *testing.T) {
	q := newQuick(t, 10, nil)
	for n := range api.MaxBatch + 1 {
		jobs, want := make([]api.Job, n), make([]api.Done, n)
		for i := range jobs {
			jobs[i].Now, want[i] = int64(i), refused(int64(i), api.Generic)
		}
		wantBatch(t, q, jobs, want)
	}
	wantBatch(t, q, nil, nil)
	wantBatch(t, q, []api.Job{}, nil)
	wantQuickState(t, q, api.State{})
}

func TestBatchesThatAreTooLong(t *testing.T) {
	q := quickOf(t, 72, usual(0)...)
	wantBatch(t, q, []api.Job{requestJob(1000, countedNext(1))}, []api.Done{nextReply(0)})
	want := api.State{Names: []string{"al", "tgs", "web"}, Numbers: []int{1, 1, 1}, Repeats: 1, Left: 48}
	wantQuickState(t, q, want)
	wantPool(t, "ahead of them", q, 3)
	// All that could change something is ahead of the job that is too many.
	jobs := adminJobs(api.Admin{Name: "bo"}, api.Admin{Kind: api.Rekey, Name: "al", Key: 1}, api.Admin{Kind: api.Delete, Name: "web"})
	jobs = append(jobs, requestJob(1000, plainFirst.write()), requestJob(1000, countedNext(2)), requestJob(5000, showProof("al", 5000, 1)))
	for _, n := range []int{17, 18, 31, 32, 33, 256, 257, 272, 70000} {
		long := append(slices.Clone(jobs), make([]api.Job, n-len(jobs))...)
		if dones, e := q.Batch(long); dones != nil || e != api.ErrFull {
			t.Errorf("P11: Batch of %d jobs = %v, %d, want nil, ErrFull", n, dones, e)
		}
		wantQuickState(t, q, want)
		wantPool(t, "behind them", q, 3)
	}
	wantBatch(t, q, []api.Job{requestJob(1000, countedNext(2)), requestJob(1000, plainFirst.write())}, []api.Done{nextReply(3), firstReply(6)})
	// One less is not too many.
	whole := make([]api.Job, 16)
	wants := make([]api.Done, 16)
	for i := range whole {
		whole[i], wants[i] = requestJob(1000, countedNext(2)), refused(1000, api.Repeat)
	}
	wantBatch(t, q, whole, wants)
}

func TestKindsOfJobs(t *testing.T) {
	q := quickOf(t, 72, usual(0)...)
	request := plainFirst.write()
	// With the kind 0 the rest of an Admin is of no matter.
	wantBatch(t, q, []api.Job{
		{Admin: api.Admin{Name: "bo", Key: 5, Life: -1, Flags: 64}, Now: 1000, Request: request},
		{Admin: api.Admin{Name: "al", Renew: -1}, Now: 1000},
		{Admin: api.Admin{Name: "A"}, Now: -5, Request: []byte{1}},
	}, []api.Done{firstReply(0), refused(1000, api.Generic), refused(-5, api.Generic)})
	// With another kind the request is of no matter.
	for _, c := range []struct {
		admin api.Admin
		want  api.Errno
	}{
		{api.Admin{Kind: api.Add, Name: "bo"}, api.OK},
		{api.Admin{Kind: api.Add, Name: "bo"}, api.ErrThere},
		{api.Admin{Kind: api.Add, Name: "A"}, api.ErrName},
		{api.Admin{Kind: api.Add, Name: "x", Life: -1}, api.ErrArg},
		{api.Admin{Kind: api.Rekey, Name: "bo"}, api.OK},
		{api.Admin{Kind: api.Rekey, Name: "x"}, api.ErrNone},
		{api.Admin{Kind: api.Repolicy, Name: "bo", Life: 9}, api.OK},
		{api.Admin{Kind: api.Repolicy, Name: "bo", Flags: 64}, api.ErrArg},
		{api.Admin{Kind: api.Delete, Name: "bo"}, api.OK},
		{api.Admin{Kind: api.Delete, Name: "bo"}, api.ErrNone},
		{api.Admin{Kind: 5, Name: "al"}, api.ErrArg},
		{api.Admin{Kind: 10, Name: "al"}, api.ErrArg},
		{api.Admin{Kind: -1, Name: "al"}, api.ErrArg},
		{api.Admin{Kind: 1 << 32, Name: "al"}, api.ErrArg},
		{api.Admin{Kind: math.MinInt, Name: "al"}, api.ErrArg},
		{api.Admin{Kind: math.MaxInt, Name: "al"}, api.ErrArg},
	} {
		wantBatch(t, q, []api.Job{{Admin: c.admin, Now: 1000, Request: request}}, []api.Done{{Errno: c.want}})
	}
	wantQuickState(t, q, api.State{Names: []string{"al", "tgs", "web"}, Numbers: []int{1, 1, 1}, Left: 48})
	// An error of one job is no hindrance to the others.
	wantBatch(t, q, []api.Job{{Admin: api.Admin{Kind: -1}}, requestJob(1000, request), {Admin: api.Admin{Kind: api.Delete, Name: "x"}}, requestJob(7, nil), requestJob(1000, request)},
		[]api.Done{{Errno: api.ErrArg}, firstReply(3), {Errno: api.ErrNone}, refused(7, api.Generic), firstReply(6)})
}

// bookChange is something that is done to the book, with a name for it.
type bookChange struct {
	what   string
	admins []api.Admin
}

// changesOf gives what can be done to an entry of the usual ones.
func changesOf(name string) []bookChange {
	policy := func(a api.Admin) api.Admin {
		a.Kind, a.Name = api.Repolicy, name
		return a
	}
	return []bookChange{
		{"deleted", []api.Admin{{Kind: api.Delete, Name: name}}},
		{"added again", []api.Admin{{Kind: api.Delete, Name: name}, {Kind: api.Add, Name: name, Key: 77, Life: 30}}},
		{"given another key", []api.Admin{{Kind: api.Rekey, Name: name, Key: 78}}},
		{"given two keys", []api.Admin{{Kind: api.Rekey, Name: name, Key: 78}, {Kind: api.Rekey, Name: name, Key: 79}}},
		{"added again and given a key", []api.Admin{{Kind: api.Delete, Name: name}, {Kind: api.Add, Name: name, Key: 77, Life: 30}, {Kind: api.Rekey, Name: name, Key: 80}}},
		{"off", []api.Admin{policy(api.Admin{Life: 100, Flags: api.Off})}},
		{"given another life", []api.Admin{policy(api.Admin{Life: 20})}},
		{"expired", []api.Admin{policy(api.Admin{Life: 100, Expire: 1000})}},
		{"such that it must show pre", []api.Admin{policy(api.Admin{Life: 100, Flags: api.MustPre})}},
		{"off and on again", []api.Admin{policy(api.Admin{Life: 100, Flags: api.Off}), policy(api.Admin{Life: 15})}},
	}
}

// wantAsPlain tells a plain desk what a quick one is told in some batches, and wants that they say the same.
func wantAsPlain(t *testing.T, what string, p *warden.Plain, q *warden.Quick, batches ...[]api.Job) (replies [][]byte) {
	t.Helper()
	for _, jobs := range batches {
		var want []api.Done
		for _, job := range jobs {
			if job.Admin.Kind != 0 {
				want = append(want, api.Done{Errno: p.Admin(job.Admin)})
				continue
			}
			reply := p.Answer(job.Now, job.Request)
			want, replies = append(want, replied(reply)), append(replies, reply)
		}
		if !wantBatch(t, q, jobs, want) {
			t.Errorf("P11, P12: so it is when an entry is %s", what)
		}
		wantQuickState(t, q, p.State())
	}
	return replies
}

func TestWhatWasLookedUpAndIsChanged(t *testing.T) {
	changed := 0
	for _, name := range []string{"tgs", "al", "web"} {
		for _, change := range changesOf(name) {
			ahead := []api.Job{requestJob(1000, plainFirst.write()), requestJob(1000, countedNext(1))}
			behind := []api.Job{requestJob(1000, plainFirst.write()), requestJob(1000, countedNext(2)), requestJob(1001, countedNext(3))}
			done := adminJobs(change.admins...)
			for _, batches := range [][][]api.Job{
				{slices.Concat(ahead, done, behind)},
				{ahead, done, behind},
				{ahead, slices.Concat(done, behind)},
				{slices.Concat(ahead, done), nil, behind},
				{slices.Concat(ahead, done[:1]), slices.Concat(done[1:], behind)},
			} {
				p, q := newPlain(t, 10, drawBytes(240)), newQuick(t, 10, drawBytes(240))
				wantAsPlain(t, "new", p, q, adminJobs(usual(0)...))
				replies := wantAsPlain(t, name+", "+change.what, p, q, batches...)
				if len(replies) != 5 || len(replies[0]) < 60 || len(replies[1]) < 60 {
					t.Fatalf("what was ahead of the change was not granted: %v", replies)
				}
				if len(replies[2]) < 60 || len(replies[3]) < 60 {
					changed++
				}
			}
		}
	}
	if changed < 50 {
		t.Errorf("of all changes %d made a request be refused", changed)
	}
}

// As above, with the bytes that must come worked out here.
func TestAKeyThatWasLookedUpIsNotToldAgain(t *testing.T) {
	for _, cut := range []int{0, 1, 2, 3, 4} {
		q := quickOf(t, 72, usual(0)...)
		second := toTgs(grant{flags: 32, client: "al", auth: 1000, start: 1000, end: 1100}).drawnFrom(3)
		second.partNumber, second.partKey, second.number, second.key = 2, 91, 2, 90
		jobs := []api.Job{requestJob(1000, plainFirst.write())}
		jobs = append(jobs, adminJobs(api.Admin{Kind: api.Rekey, Name: "tgs", Key: 90}, api.Admin{Kind: api.Rekey, Name: "al", Key: 91})...)
		jobs = append(jobs, requestJob(1000, plainFirst.write()))
		want := []api.Done{firstReply(0), {}, {}, replied(second.toFirst())}
		wantBatch(t, q, jobs[:cut], want[:cut])
		wantBatch(t, q, jobs[cut:], want[cut:])
		wantQuickState(t, q, api.State{Names: []string{"al", "tgs", "web"}, Numbers: []int{2, 2, 1}, Left: 24})
		// The key ahead of the newest is kept, the one ahead of that is not.
		wantBatch(t, q, []api.Job{requestJob(1000, countedNext(1)), adminJobs(api.Admin{Kind: api.Rekey, Name: "tgs", Key: 92})[0], requestJob(1000, countedNext(2))},
			[]api.Done{nextReply(6), {}, refused(1000, api.BadKey)})
	}
}

func TestNamesThatCameIntoTheBookLater(t *testing.T) {
	q := quickOf(t, 72)
	first, next := requestJob(1000, plainFirst.write()), requestJob(1000, countedNext(1))
	wantBatch(t, q, []api.Job{first, next, first, next}, []api.Done{refused(1000, api.Unknown), refused(1000, api.ServiceUnknown), refused(1000, api.Unknown), refused(1000, api.ServiceUnknown)})
	wantPool(t, "no entries", q, 0)
	entries := adminJobs(usual(0)...)
	wantBatch(t, q, []api.Job{first, entries[1], first, next, entries[0], first, next, entries[2], requestJob(1000, countedNext(2))},
		[]api.Done{refused(1000, api.Unknown), {}, refused(1000, api.ServiceUnknown), refused(1000, api.ServiceUnknown), {}, firstReply(0), refused(1000, api.ServiceUnknown), {}, nextReply(3)})
	// Gone, and there again.
	wantBatch(t, q, adminJobs(api.Admin{Kind: api.Delete, Name: "al"}), make([]api.Done, 1))
	wantBatch(t, q, []api.Job{first}, []api.Done{refused(1000, api.Unknown)})
	wantBatch(t, q, []api.Job{entries[1]}, make([]api.Done, 1))
	wantBatch(t, q, []api.Job{first}, []api.Done{firstReply(6)})
}

// manyEntries gives as many entries as a book has, of the names tgs, b, c and so on; no two keys and lives are the same.
func manyEntries() (entries []api.Admin) {
	for i := range api.MaxEntries {
		entries = append(entries, api.Admin{Name: string(rune('a' + i)), Key: uint64(1000 + i), Life: int64(50 + i), Renew: 500, Flags: allMays})
	}
	entries[0].Name = "tgs"
	return entries
}

func TestMoreNamesThanAreRemembered(t *testing.T) {
	entries := manyEntries()
	p, q := newPlain(t, 10, drawBytes(24000)), quickOf(t, 24000, entries...)
	for _, job := range adminJobs(entries...) {
		p.Admin(job.Admin)
	}
	var jobs []api.Job
	for _, apart := range []int{0, 1, 2, 3, 4, 5, 19} {
		for i := range entries {
			ask := firstAsk{client: entries[i].Name, service: entries[(i+apart)%len(entries)].Name, options: 7}
			jobs = append(jobs, requestJob(1000, ask.write()))
		}
	}
	r := rand.New(rand.NewSource(53))
	for range 400 {
		ask := firstAsk{client: entries[r.Intn(20)].Name, service: entries[r.Intn(8)].Name, options: 7}
		jobs = append(jobs, requestJob(1000, ask.write()))
	}
	for batch := range slices.Chunk(jobs, 7) {
		for _, reply := range wantAsPlain(t, "one of many", p, q, batch) {
			if len(reply) < 60 {
				t.Fatalf("a request of many is refused: %s", show(reply))
			}
		}
	}
	wantPool(t, "many names", q, api.MaxLook)
}

func TestHowManyAreRemembered(t *testing.T) {
	q := quickOf(t, 2400, manyEntries()...)
	wantPool(t, "a desk that looked nothing up", q, 0)
	ask := func(client, service string) []api.Job {
		return []api.Job{requestJob(1000, firstAsk{client: client, service: service}.write())}
	}
	for _, c := range []struct {
		jobs   []api.Job
		looked int
	}{
		{ask("b", "b"), 1}, {ask("b", "tgs"), 2}, {ask("tgs", "b"), 2}, {ask("b", "zz"), 2}, {ask("zz", "c"), 3}, {nil, 3}, {[]api.Job{{}}, 3},
		{ask("c", "d"), 4}, {ask("e", "f"), 4}, {ask("b", "c"), 4}, {ask("e", "e"), 4},
		{adminJobs(api.Admin{Name: "b"}, api.Admin{Kind: api.Delete, Name: "zz"}, api.Admin{Kind: 9}), 4},
		{adminJobs(api.Admin{Kind: api.Delete, Name: "t"}), 0}, {ask("b", "t"), 1}, {ask("b", "t"), 1},
	} {
		if _, e := q.Batch(c.jobs); e != api.OK {
			t.Errorf("P11: Batch = %d", e)
		}
		wantPool(t, fmt.Sprint("behind ", c.jobs), q, c.looked)
	}
}

func TestStateBetweenBatches(t *testing.T) {
	q := newQuick(t, 10, drawBytes(75))
	wantQuickState(t, q, api.State{Left: 75})
	wantBatch(t, q, adminJobs(usual(0)...), make([]api.Done, 3))
	wantQuickState(t, q, api.State{Names: []string{"al", "tgs", "web"}, Numbers: []int{1, 1, 1}, Left: 75})
	jobs := append([]api.Job{requestJob(1000, plainFirst.write()), requestJob(1000, countedNext(1))},
		adminJobs(api.Admin{Kind: api.Rekey, Name: "tgs", Key: 5}, api.Admin{Name: "b"}, api.Admin{Kind: api.Rekey, Name: "tgs", Key: 6})...)
	wantBatch(t, q, jobs, []api.Done{firstReply(0), nextReply(3), {}, {}, {}})
	wantQuickState(t, q, api.State{Names: []string{"al", "b", "tgs", "web"}, Numbers: []int{1, 1, 3, 1}, Repeats: 1, Left: 27})
	wantBatch(t, q, nil, nil)
	wantQuickState(t, q, api.State{Names: []string{"al", "b", "tgs", "web"}, Numbers: []int{1, 1, 3, 1}, Repeats: 1, Left: 27})
	wantBatch(t, q, adminJobs(api.Admin{Kind: api.Delete, Name: "tgs"}, api.Admin{Kind: api.Delete, Name: "b"}), make([]api.Done, 2))
	wantQuickState(t, q, api.State{Names: []string{"al", "web"}, Numbers: []int{1, 1}, Repeats: 1, Left: 27})
}

func TestPoolBehindEveryKindOfBatch(t *testing.T) {
	q := newQuick(t, 10, drawBytes(2400))
	fresh := q.Pool()
	wantPool(t, "a fresh desk", q, 0)
	check := func(what string, jobs ...api.Job) {
		t.Helper()
		q.Batch(jobs)
		wantFree(t, q)
		if p := q.Pool(); p.Buffers != fresh.Buffers {
			t.Errorf("P12: %s: %d buffers, %d at first", what, p.Buffers, fresh.Buffers)
		}
	}
	check("no jobs")
	check("Admins alone", adminJobs(usual(allMays)...)...)
	check("Admins that are refused", adminJobs(append(usual(64), api.Admin{Kind: -1}, api.Admin{Kind: 7})...)...)
	check("grants", requestJob(1000, plainFirst.write()), requestJob(1000, countedNext(1)), requestJob(1000, plainFirst.write()))
	check("too many", make([]api.Job, 17)...)
	for i := range 17 {
		check("what is no request", requestJob(1000, make([]byte, i*20)))
	}
	check("a refusal sixteen times", slices.Repeat([]api.Job{requestJob(1000, countedNext(1))}, 16)...)
	check("a request of the greatest length", requestJob(1000, grown(t, api.MaxRequest, func(in []byte) []byte {
		ask := plainNext(plainGrant)
		ask.proof = in
		return ask.write()
	})))
}

// Each refusal, by a fault of its own, and a grant behind it.
func TestPoolBehindEachRefusal(t *testing.T) {
	codes := map[int64]int{}
	for _, fault := range firstFaults {
		scene := rightFirstScene()
		fault.spoil(&scene)
		wantBatchCode(t, scene.desk(t).quick, scene.ask.write(), fault.code)
		codes[fault.code]++
	}
	for _, fault := range nextFaults {
		scene := rightNextScene()
		fault.spoil(&scene)
		wantBatchCode(t, scene.desk(t).quick, scene.request(), fault.code)
		codes[fault.code]++
	}
	if len(codes) != 18 {
		t.Errorf("these codes came: %v", codes)
	}
}

func wantBatchCode(t *testing.T, q *warden.Quick, request []byte, code int64) {
	t.Helper()
	before := q.Pool()
	wantBatch(t, q, []api.Job{requestJob(1000, request), requestJob(1001, nil)}, []api.Done{refused(1000, code), refused(1001, api.Generic)})
	if p := q.Pool(); p.Buffers != before.Buffers || p.Free != before.Free {
		t.Errorf("P12: behind the code %d Pool() = %+v, ahead of it %+v", code, p, before)
	}
}

func TestDrawsThatRunOutWithinABatch(t *testing.T) {
	for _, n := range []int{0, 23, 24, 47, 48, 71, 72, 100} {
		q := quickOf(t, n, usual(0)...)
		jobs := []api.Job{requestJob(1000, plainFirst.write()), requestJob(1000, countedNext(1)), requestJob(1000, plainFirst.write()), requestJob(1000, countedNext(2)), requestJob(1000, countedNext(2))}
		want := []api.Done{firstReply(0), nextReply(3), firstReply(6), nextReply(9), refused(1000, api.Repeat)}
		for i := n / 24; i < 4; i++ {
			want[i] = refused(1000, api.Generic)
		}
		wantBatch(t, q, jobs, want)
		wantQuickState(t, q, api.State{Names: []string{"al", "tgs", "web"}, Numbers: []int{1, 1, 1}, Repeats: 2, Left: n - 24*min(n/24, 4)})
	}
}

func TestAProofTwiceInBatches(t *testing.T) {
	q := quickOf(t, 2400, usual(0)...)
	again := requestJob(1000, countedNext(1))
	wantBatch(t, q, []api.Job{again, again, requestJob(1010, countedNext(1)), requestJob(1011, countedNext(1))},
		[]api.Done{nextReply(0), refused(1000, api.Repeat), refused(1010, api.Repeat), refused(1011, api.Skewed)})
	wantBatch(t, q, []api.Job{again}, []api.Done{refused(1000, api.Repeat)})
	// A change of the book makes no proof forgotten.
	wantBatch(t, q, append(adminJobs(api.Admin{Kind: api.Repolicy, Name: "al", Life: 9}), again), []api.Done{{}, refused(1000, api.Repeat)})
	var jobs []api.Job
	var want []api.Done
	for i := range int64(api.MaxRepeats) + 1 {
		jobs, want = append(jobs, requestJob(1000, showProof("al", 1000, 10+i))), append(want, refused(1000, api.ServiceUnknown))
	}
	want[7], want[8] = refused(1000, api.Generic), refused(1000, api.Generic)
	wantBatch(t, q, jobs, want)
	wantQuickState(t, q, api.State{Names: []string{"al", "tgs", "web"}, Numbers: []int{1, 1, 1}, Repeats: 8, Left: 2400 - 24})
	// Far away all are forgotten, within a batch.
	wantBatch(t, q, []api.Job{requestJob(5000, showProof("al", 5000, 1)), jobs[0], jobs[0]},
		[]api.Done{refused(5000, api.ServiceUnknown), refused(1000, api.ServiceUnknown), refused(1000, api.Repeat)})
	wantQuickState(t, q, api.State{Names: []string{"al", "tgs", "web"}, Numbers: []int{1, 1, 1}, Repeats: 1, Left: 2400 - 24})
}

func TestQuickDesksThatNoCallMade(t *testing.T) {
	var none *warden.Quick
	jobs := append(adminJobs(usual(0)...), requestJob(5, nil), requestJob(5, plainFirst.write()), requestJob(5, countedNext(1)), api.Job{Admin: api.Admin{Kind: -1}})
	no := api.Done{Errno: api.ErrArg}
	wantBatch(t, none, jobs, []api.Done{no, no, no, refused(5, api.Generic), refused(5, api.Unknown), refused(5, api.ServiceUnknown), no})
	wantQuickState(t, none, api.State{})
	zero := new(warden.Quick)
	wantPool(t, "a desk that no call made", zero, 0)
	for _, q := range []*warden.Quick{none, zero} {
		if dones, e := q.Batch(make([]api.Job, 17)); dones != nil || e != api.ErrFull {
			t.Errorf("P1, P11: Batch of 17 jobs = %v, %d", dones, e)
		}
		wantBatch(t, q, nil, nil)
		wantPool(t, "such a desk", q, 0)
	}
	wantBatch(t, zero, append(adminJobs(usual(0)...), requestJob(1000, plainFirst.write())), []api.Done{{}, {}, {}, refused(1000, api.Generic)})
}

func TestBatchesOfAnyBytes(t *testing.T) {
	r := rand.New(rand.NewSource(59))
	p, q := newPlain(t, 10, drawBytes(24000)), newQuick(t, 10, drawBytes(24000))
	wantAsPlain(t, "new", p, q, adminJobs(usual(allMays)...))
	right := rightRequests()
	for range 1500 {
		jobs := make([]api.Job, r.Intn(17))
		for i := range jobs {
			jobs[i].Now = []int64{least, -1, 0, 1, 990, 1000, 1010, greatest}[r.Intn(8)]
			if r.Intn(9) == 0 {
				jobs[i].Admin = randomAdmin(r)
			}
			request := randomBytes(r, r.Intn(320))
			if r.Intn(4) > 0 {
				request = makeList(right[[]string{"first", "pre", "next"}[r.Intn(3)]]...)
				for range r.Intn(3) {
					request[r.Intn(len(request))] = byte(r.Intn(256))
				}
			}
			jobs[i].Request = bytes.Clone(request)
		}
		wantAsPlain(t, "of any bytes", p, q, jobs)
	}
}
