package book

import (
	"math"
	"testing"

	"warden/api"
)

func wantChange(t *testing.T, b *Book, a api.Admin, want api.Errno) {
	t.Helper()
	if errno := b.Change(a); errno != want {
		t.Errorf("P5: Change(%+v) = %d, want %d", a, errno, want)
	}
}

func wantEntry(t *testing.T, b *Book, want Entry) {
	t.Helper()
	if entry, ok := b.Find(want.Name); entry != want || !ok {
		t.Errorf("P5: Find(%q) = %+v, %v, want %+v", want.Name, entry, ok, want)
	}
}

func wantNone(t *testing.T, b *Book, name string) {
	t.Helper()
	if entry, ok := b.Find(name); entry != (Entry{}) || ok {
		t.Errorf("P5: Find(%q) = %+v, %v, want none", name, entry, ok)
	}
}

func TestAddKeepsKeyAndPolicy(t *testing.T) {
	var b Book
	wantNone(t, &b, "web")
	for _, c := range []struct {
		name string
		key  uint64
		Policy
	}{
		{"web", 7, Policy{1, 2, 3, 4}},
		{"a", math.MaxUint64, Policy{math.MaxInt64, 0, math.MinInt64, 63}},
		{"z", 0, Policy{0, math.MaxInt64, math.MaxInt64, 0}},
		{"m", 1 << 63, Policy{}},
	} {
		wantChange(t, &b, api.Admin{Kind: api.Add, Name: c.name, Key: c.key, Life: c.Life, Renew: c.Renew, Expire: c.Expire, Flags: c.Flags}, api.OK)
		wantEntry(t, &b, Entry{c.name, 1, c.key, 0, c.Policy})
	}
	wantEntry(t, &b, Entry{"web", 1, 7, 0, Policy{1, 2, 3, 4}})
	wantNone(t, &b, "we")
	wantNone(t, &b, "webb")
	wantNone(t, &b, "")
}

func TestRekeyKeepsOneKeyBefore(t *testing.T) {
	var b Book
	policy := Policy{5, 6, 7, 8}
	wantChange(t, &b, api.Admin{Kind: api.Add, Name: "al", Key: 11, Life: 5, Renew: 6, Expire: 7, Flags: 8}, api.OK)
	wantChange(t, &b, api.Admin{Kind: api.Add, Name: "bo", Key: 90}, api.OK)
	for i, want := range []Entry{{"al", 2, 22, 11, policy}, {"al", 3, 33, 22, policy}, {"al", 4, 33, 33, policy}} {
		wantChange(t, &b, api.Admin{Kind: api.Rekey, Name: "al", Key: want.Key, Life: -1, Renew: int64(i), Flags: 64}, api.OK)
		wantEntry(t, &b, want)
	}
	wantEntry(t, &b, Entry{Name: "bo", Number: 1, Key: 90})
}

func TestRepolicyChangesThePolicyAlone(t *testing.T) {
	var b Book
	wantChange(t, &b, api.Admin{Kind: api.Add, Name: "al", Key: 11, Life: 5}, api.OK)
	wantChange(t, &b, api.Admin{Kind: api.Rekey, Name: "al", Key: 22}, api.OK)
	wantChange(t, &b, api.Admin{Kind: api.Repolicy, Name: "al", Key: 99, Life: 1, Renew: 2, Expire: 3, Flags: 4}, api.OK)
	want := Entry{"al", 2, 22, 11, Policy{1, 2, 3, 4}}
	wantEntry(t, &b, want)
	for _, a := range []api.Admin{{Life: -1}, {Renew: -1}, {Flags: 64}, {Flags: -1}, {Life: math.MinInt64, Expire: 9}} {
		a.Kind, a.Name = api.Repolicy, "al"
		wantChange(t, &b, a, api.ErrArg)
		wantEntry(t, &b, want)
	}
	wantChange(t, &b, api.Admin{Kind: api.Repolicy, Name: "al"}, api.OK)
	wantEntry(t, &b, Entry{"al", 2, 22, 11, Policy{}})
}

func TestAnEntryAddedAgainIsNew(t *testing.T) {
	var b Book
	wantChange(t, &b, api.Admin{Kind: api.Add, Name: "al", Key: 11, Life: 5, Flags: 3}, api.OK)
	wantChange(t, &b, api.Admin{Kind: api.Rekey, Name: "al", Key: 22}, api.OK)
	wantChange(t, &b, api.Admin{Kind: api.Delete, Name: "al"}, api.OK)
	wantNone(t, &b, "al")
	if b != (Book{}) {
		t.Errorf("P5: something of a deleted entry is kept: %+v", b)
	}
	wantChange(t, &b, api.Admin{Kind: api.Add, Name: "al", Key: 33}, api.OK)
	wantEntry(t, &b, Entry{Name: "al", Number: 1, Key: 33})
}

func TestDeleteLeavesTheOthers(t *testing.T) {
	for _, gone := range []string{"a", "b", "c", "d"} {
		var b Book
		for i, name := range []string{"c", "a", "d", "b"} {
			wantChange(t, &b, api.Admin{Kind: api.Add, Name: name, Key: uint64(i), Life: int64(i)}, api.OK)
		}
		wantChange(t, &b, api.Admin{Kind: api.Delete, Name: gone}, api.OK)
		for i, name := range []string{"c", "a", "d", "b"} {
			if name == gone {
				wantNone(t, &b, name)
				continue
			}
			wantEntry(t, &b, Entry{Name: name, Number: 1, Key: uint64(i), Policy: Policy{Life: int64(i)}})
		}
	}
}

func TestACopyIsABookOfItsOwn(t *testing.T) {
	var b Book
	wantChange(t, &b, api.Admin{Kind: api.Add, Name: "al", Key: 11}, api.OK)
	copied := b
	wantChange(t, &b, api.Admin{Kind: api.Rekey, Name: "al", Key: 22}, api.OK)
	wantChange(t, &copied, api.Admin{Kind: api.Add, Name: "aa", Key: 5}, api.OK)
	wantEntry(t, &copied, Entry{Name: "al", Number: 1, Key: 11})
	wantEntry(t, &b, Entry{Name: "al", Number: 2, Key: 22, Before: 11})
	wantNone(t, &b, "aa")
}

func TestKeysByTheirNumbers(t *testing.T) {
	const min, max = math.MinInt64, math.MaxInt64
	for _, c := range []struct {
		newest int
		number int64
		key    uint64
		ok     bool
	}{
		{1, 1, 7, true}, {1, 0, 0, false}, {1, 2, 0, false}, {1, -1, 0, false}, {1, min, 0, false}, {1, max, 0, false}, {1, 1 << 32, 0, false}, {1, 1<<32 + 1, 0, false},
		{2, 2, 7, true}, {2, 1, 6, true}, {2, 0, 0, false}, {2, 3, 0, false}, {2, 1<<32 + 2, 0, false},
		{9, 9, 7, true}, {9, 8, 6, true}, {9, 7, 0, false}, {9, 10, 0, false}, {9, -8, 0, false}, {9, -9, 0, false},
	} {
		entry := Entry{Number: c.newest, Key: 7, Before: 6}
		if key, ok := entry.KeyOf(c.number); key != c.key || ok != c.ok {
			t.Errorf("P9: KeyOf(%d) of an entry with the key number %d = %d, %v", c.number, c.newest, key, ok)
		}
	}
}

func TestExpire(t *testing.T) {
	const min, max = math.MinInt64, math.MaxInt64
	for _, c := range []struct {
		expire, now int64
		over        bool
	}{
		{0, 0, false}, {0, 5, false}, {0, max, false}, {0, min, false},
		{5, 4, false}, {5, 5, true}, {5, 6, true}, {-5, -6, false}, {-5, -5, true}, {-5, 0, true},
		{max, max - 1, false}, {max, max, true}, {min, min, true}, {min, max, true}, {max, min, false}, {1, 0, false}, {-1, 0, true},
	} {
		policy := Policy{Expire: c.expire}
		if over := policy.IsOver(c.now); over != c.over {
			t.Errorf("P7: with Expire %d at %d: over is %v", c.expire, c.now, over)
		}
	}
}

func TestFlags(t *testing.T) {
	for flags := range 64 {
		for bit := range 6 {
			policy := Policy{Flags: flags}
			if policy.Has(1<<bit) != (flags>>bit%2 == 1) {
				t.Errorf("flags %d have %d: %v", flags, 1<<bit, policy.Has(1<<bit))
			}
		}
	}
}
