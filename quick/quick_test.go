package quick

import (
	"testing"

	"warden/api"
	"warden/book"
	"warden/buffers"
)

func newDesk(t *testing.T, names ...string) *Desk {
	t.Helper()
	d, errno := New(10, make([]byte, 48))
	for _, name := range names {
		if errno == api.OK {
			errno = d.Admin(api.Admin{Kind: api.Add, Name: name, Key: uint64(len(name))})
		}
	}
	if errno != api.OK {
		t.Fatalf("P11: no desk: %d", errno)
	}
	return &d
}

func TestWhatIsLookedUpIsRemembered(t *testing.T) {
	d := newDesk(t, "a", "bb", "ccc", "dddd", "eeeee")
	for i, name := range []string{"a", "bb", "ccc", "dddd", "eeeee"} {
		for range 2 {
			entry, ok := d.Find(name)
			if want := (book.Entry{Name: name, Number: 1, Key: uint64(i + 1)}); entry != want || !ok {
				t.Errorf("P12: Find(%s) = %+v, %t, want %+v", name, entry, ok, want)
			}
			if looked := d.Pool().Looked; looked != min(i+1, api.MaxLook) {
				t.Errorf("P12: behind Find(%s) Looked is %d", name, looked)
			}
			if _, ok := d.lookups.Find(name); !ok {
				t.Errorf("P12: %s is not remembered", name)
			}
		}
	}
	// The book is not asked for what is remembered.
	d.desk = newDesk(t).desk
	if _, ok := d.Find("eeeee"); !ok {
		t.Error("P12: what is remembered is looked up anew")
	}
	if _, ok := d.Find("a"); ok {
		t.Error("P12: what gave way is remembered")
	}
}

func TestAChangeOfTheBookMakesForgotten(t *testing.T) {
	for _, c := range []struct {
		admin  api.Admin
		looked int
	}{
		{api.Admin{Kind: api.Add, Name: "new"}, 0},
		{api.Admin{Kind: api.Delete, Name: "a"}, 0},
		{api.Admin{Kind: api.Rekey, Name: "a"}, 0},
		{api.Admin{Kind: api.Repolicy, Name: "a"}, 0},
		{api.Admin{Kind: api.Add, Name: "a"}, 2},
		{api.Admin{Kind: api.Add, Name: "A"}, 2},
		{api.Admin{Kind: api.Delete, Name: "x"}, 2},
		{api.Admin{Kind: api.Rekey, Name: "x"}, 2},
		{api.Admin{Kind: api.Repolicy, Name: "a", Life: -1}, 2},
		{api.Admin{Kind: 5, Name: "a"}, 2},
		{api.Admin{Kind: -1, Name: "a"}, 2},
	} {
		d := newDesk(t, "a", "bb")
		d.Find("a")
		d.Find("bb")
		d.Find("x")
		d.Admin(c.admin)
		if looked := d.Pool().Looked; looked != c.looked {
			t.Errorf("P12: behind %+v Looked is %d, want %d", c.admin, looked, c.looked)
		}
	}
}

// watcher is a desk that looks how many buffers lie free while it answers.
type watcher struct {
	*Desk
	free []int
}

func (w *watcher) Answer(now int64, request []byte) []byte {
	w.free = append(w.free, w.Pool().Free)
	return w.Desk.Answer(now, request)
}

func TestBuffersLieFreeBetweenJobs(t *testing.T) {
	w := &watcher{Desk: newDesk(t)}
	jobs := []api.Job{{}, {Request: make([]byte, 400)}, {Admin: api.Admin{Kind: 7}}, {Now: 5}}
	if dones, errno := Batch(w, jobs); len(dones) != 4 || errno != api.OK {
		t.Errorf("P11: Batch = %v, %d", dones, errno)
	}
	if len(w.free) != 3 {
		t.Errorf("P11: %d requests were answered, want 3", len(w.free))
	}
	for i, free := range w.free {
		if free != buffers.Count {
			t.Errorf("P12: ahead of request %d %d buffers lie free", i, free)
		}
	}
	if w.pool != (buffers.Pool{}) {
		t.Error("P12: something is left in the buffers")
	}
}
