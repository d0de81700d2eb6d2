package lookups

import (
	"testing"

	"warden/api"
	"warden/book"
)

// entry gives an entry whose key tells of its name.
func entry(name string) book.Entry {
	return book.Entry{Name: name, Number: 1, Key: uint64(name[0])}
}

// wantRemembered wants that just these names, of a to z, are remembered, and their entries are told.
func wantRemembered(t *testing.T, l *Lookups, names string) {
	t.Helper()
	found := ""
	for c := 'a'; c <= 'z'; c++ {
		got, ok := l.Find(string(c))
		if ok {
			found += string(c)
		}
		if ok && got != entry(string(c)) || !ok && got != (book.Entry{}) {
			t.Errorf("P12: Find(%c) = %+v, %t", c, got, ok)
		}
	}
	if found != names || l.Count() != len(names) {
		t.Errorf("P12: %q are remembered, %d, want %q", found, l.Count(), names)
	}
}

func TestTheOldestGivesWay(t *testing.T) {
	var l Lookups
	wantRemembered(t, &l, "")
	want := []string{"a", "ab", "abc", "abcd", "bcde", "cdef", "defg", "efgh", "fghi", "ghij"}
	for i, names := range want {
		l.Remember(entry(string(rune('a' + i))))
		wantRemembered(t, &l, names)
	}
	if l.Count() != api.MaxLook {
		t.Errorf("P12: %d are remembered", l.Count())
	}
}

func TestAllIsForgotten(t *testing.T) {
	for n := range 2 * api.MaxLook {
		var l Lookups
		for i := range n {
			l.Remember(entry(string(rune('a' + i))))
		}
		copied := l
		l.Forget()
		if l != (Lookups{}) {
			t.Errorf("P12: of %d entries there is left %+v", n, l)
		}
		wantRemembered(t, &l, "")
		if copied.Count() != min(n, api.MaxLook) {
			t.Errorf("P2: a copy forgot too: it has %d of %d", copied.Count(), n)
		}
		l.Remember(entry("z"))
		wantRemembered(t, &l, "z")
	}
}

func TestAnEmptyNameIsNotRemembered(t *testing.T) {
	var l Lookups
	l.Remember(entry("a"))
	if got, ok := l.Find(""); ok {
		t.Errorf("P12: Find of no name = %+v", got)
	}
}
