package warden_test

import (
	"bytes"
	"math"
	"math/rand"
	"slices"
	"strings"
	"testing"

	"warden/api"
	"warden/warden"
)

func wantAdmin(t *testing.T, p teller, a api.Admin, want api.Errno) {
	t.Helper()
	if e := p.Admin(a); e != want {
		t.Errorf("P5: Admin(%+v) = %d, want %d", a, e, want)
	}
}

func sameState(a, b api.State) bool {
	return slices.Equal(a.Names, b.Names) && slices.Equal(a.Numbers, b.Numbers) && a.Repeats == b.Repeats && a.Left == b.Left
}

func wantState(t *testing.T, p teller, want api.State) {
	t.Helper()
	if s := p.State(); !sameState(s, want) {
		t.Errorf("P6: State() = %+v, want %+v", s, want)
	}
}

// wantRefused wants an error, and that nothing is changed by it.
func wantRefused(t *testing.T, p teller, a api.Admin, want api.Errno) {
	t.Helper()
	before := p.State()
	wantAdmin(t, p, a, want)
	wantState(t, p, before)
}

func add(name string) api.Admin { return api.Admin{Kind: api.Add, Name: name} }

func TestSkews(t *testing.T) {
	for _, skew := range []int{-1, api.MaxSkew + 1, -300, math.MaxInt, math.MinInt, 1 << 32, 1<<32 + 1} {
		if p, e := warden.NewPlain(skew, make([]byte, 24)); p != nil || e != api.ErrArg {
			t.Errorf("P5: NewPlain(%d, ..) = %v, %d, want nil, ErrArg", skew, p, e)
		}
		if q, e := warden.NewQuick(skew, make([]byte, 24)); q != nil || e != api.ErrArg {
			t.Errorf("P11: NewQuick(%d, ..) = %v, %d, want nil, ErrArg", skew, q, e)
		}
	}
	for _, skew := range []int{0, 1, api.MaxSkew - 1, api.MaxSkew} {
		wantState(t, newDesk(t, skew, nil), api.State{})
	}
}

func TestDrawsOfAnyLengthAreLeft(t *testing.T) {
	for _, n := range []int{0, 1, 7, 8, 9, 23, 24, 25, 77, 1000, 70001} {
		wantState(t, newDesk(t, 10, make([]byte, n)), api.State{Left: n})
	}
	p := newDesk(t, 10, make([]byte, 77))
	wantAdmin(t, p, add("web"), api.OK)
	wantAdmin(t, p, api.Admin{Kind: api.Rekey, Name: "web"}, api.OK)
	wantState(t, p, api.State{Names: []string{"web"}, Numbers: []int{2}, Left: 77})
}

func TestDrawsStayTheirOwners(t *testing.T) {
	draws, check := roomy(t, bytes.Repeat([]byte{9}, 30))
	p := newDesk(t, 10, draws)
	wantAdmin(t, p, add("web"), api.OK)
	check("NewPlain")
	spoil(draws)
	draws = append(draws[:0], 1, 2, 3)
	wantState(t, p, api.State{Names: []string{"web"}, Numbers: []int{1}, Left: 30})
	wantState(t, newDesk(t, 10, draws), api.State{Left: 3})
}

func TestNamesThatMayBe(t *testing.T) {
	for _, name := range []string{"a", "z", "0", "9", "/", "//", "tgs", "0/z", "a1/b2", strings.Repeat("q", api.MaxName)} {
		p := newDesk(t, 0, nil)
		wantAdmin(t, p, add(name), api.OK)
		wantState(t, p, api.State{Names: []string{name}, Numbers: []int{1}})
	}
}

func TestNamesThatMayNotBe(t *testing.T) {
	p := newDesk(t, 0, nil)
	outside := []string{"", "`", "{", ":", ".", "A", "Z", "-", "_", " ", "\x00", "\x7f", "\x80", "\xff", "é", "ａ"}
	for _, name := range outside {
		wantRefused(t, p, add(name), api.ErrName)
		if name != "" {
			wantRefused(t, p, add("a"+name), api.ErrName)
			wantRefused(t, p, add(name+"a"), api.ErrName)
			wantRefused(t, p, add(strings.Repeat("a", api.MaxName-1)+name), api.ErrName)
		}
	}
	wantRefused(t, p, add(strings.Repeat("q", api.MaxName+1)), api.ErrName)
	wantRefused(t, p, add(strings.Repeat("q", 70000)), api.ErrName)
	// What is no name has no entry, and no other error.
	for _, name := range outside {
		for _, kind := range []int{api.Delete, api.Rekey, api.Repolicy} {
			wantRefused(t, p, api.Admin{Kind: kind, Name: name, Life: -1, Flags: 64}, api.ErrNone)
		}
	}
}

// The policies that may not be, and some that may, whatever the entry.
var (
	wrongPolicies = []api.Admin{
		{Life: -1}, {Life: math.MinInt64}, {Renew: -1}, {Renew: math.MinInt64}, {Life: -1, Renew: -1, Flags: 64},
		{Flags: 64}, {Flags: 65}, {Flags: 127}, {Flags: 128}, {Flags: -1}, {Flags: -64}, {Flags: 1 << 32}, {Flags: math.MinInt}, {Flags: math.MaxInt},
	}
	rightPolicies = []api.Admin{
		{}, {Life: 1}, {Renew: 1}, {Life: math.MaxInt64, Renew: math.MaxInt64}, {Expire: -1}, {Expire: math.MinInt64}, {Expire: math.MaxInt64},
		{Flags: api.MustPre}, {Flags: api.MayRenew}, {Flags: api.MayForward}, {Flags: api.MayProxy}, {Flags: api.MayPostdate}, {Flags: api.Off}, {Flags: 63},
	}
)

// policyDesk gives a desk at which a policy of the kind may be told of the entry web.
func policyDesk(t *testing.T, kind int) *both {
	t.Helper()
	p := newDesk(t, 0, nil)
	if kind == api.Repolicy {
		wantAdmin(t, p, add("web"), api.OK)
	}
	return p
}

func TestPolicies(t *testing.T) {
	for _, kind := range []int{api.Add, api.Repolicy} {
		for _, a := range wrongPolicies {
			a.Kind, a.Name = kind, "web"
			wantRefused(t, policyDesk(t, kind), a, api.ErrArg)
		}
		for _, a := range rightPolicies {
			a.Kind, a.Name = kind, "web"
			p := policyDesk(t, kind)
			wantAdmin(t, p, a, api.OK)
			wantState(t, p, api.State{Names: []string{"web"}, Numbers: []int{1}})
		}
	}
}

func TestOtherKinds(t *testing.T) {
	p := newDesk(t, 0, nil)
	wantAdmin(t, p, add("web"), api.OK)
	for _, kind := range []int{0, 5, -1, -4, 6, 1 << 32, 1<<32 + 1, math.MaxInt, math.MinInt} {
		for _, name := range []string{"web", "x", "", "A"} {
			wantRefused(t, p, api.Admin{Kind: kind, Name: name}, api.ErrArg)
			wantRefused(t, p, api.Admin{Kind: kind, Name: name, Life: -1}, api.ErrArg)
		}
	}
}

// fill gives a desk whose book is full: of the names a, b and so on.
func fill(t *testing.T) *both {
	t.Helper()
	p := newDesk(t, 0, nil)
	for i := range api.MaxEntries {
		wantAdmin(t, p, add(string([]byte{byte('a' + i)})), api.OK)
	}
	return p
}

func TestFullBook(t *testing.T) {
	p := fill(t)
	if s := p.State(); len(s.Names) != 20 || strings.Join(s.Names, "") != "abcdefghijklmnopqrst" || len(s.Numbers) != 20 {
		t.Errorf("P6: State() = %+v", s)
	}
	for _, name := range []string{"z", "0", "aa", "zz"} {
		wantRefused(t, p, add(name), api.ErrFull)
	}
	wantAdmin(t, p, api.Admin{Kind: api.Rekey, Name: "t"}, api.OK)
	wantAdmin(t, p, api.Admin{Kind: api.Repolicy, Name: "a", Life: 5}, api.OK)
	wantAdmin(t, p, api.Admin{Kind: api.Delete, Name: "c"}, api.OK)
	wantAdmin(t, p, add("zz"), api.OK)
	wantRefused(t, p, add("z"), api.ErrFull)
	if s := p.State(); strings.Join(s.Names, "") != "abdefghijklmnopqrstzz" || s.Numbers[18] != 2 || s.Numbers[19] != 1 {
		t.Errorf("P6: State() = %+v", s)
	}
}

func TestOrderOfErrors(t *testing.T) {
	p := fill(t)
	for _, policy := range wrongPolicies {
		a := policy
		a.Kind = api.Add
		a.Name = "A"
		wantRefused(t, p, a, api.ErrName)
		a.Name = "a"
		wantRefused(t, p, a, api.ErrArg)
		a.Name = "z"
		wantRefused(t, p, a, api.ErrArg)
		a.Kind = api.Repolicy
		wantRefused(t, p, a, api.ErrNone)
		a.Name = "a"
		wantRefused(t, p, a, api.ErrArg)
	}
	wantRefused(t, p, add("A"), api.ErrName)
	wantRefused(t, p, add("a"), api.ErrThere)
	wantRefused(t, p, add("t"), api.ErrThere)
	wantRefused(t, p, add("z"), api.ErrFull)
}

func TestThreeRekeys(t *testing.T) {
	p := newDesk(t, 0, nil)
	wantRefused(t, p, api.Admin{Kind: api.Rekey, Name: "web"}, api.ErrNone)
	wantAdmin(t, p, add("web"), api.OK)
	wantAdmin(t, p, add("al"), api.OK)
	for number := 2; number <= 4; number++ {
		// A policy does not matter to it.
		wantAdmin(t, p, api.Admin{Kind: api.Rekey, Name: "web", Key: 5, Life: -1, Renew: -1, Flags: -1}, api.OK)
		wantState(t, p, api.State{Names: []string{"al", "web"}, Numbers: []int{1, number}})
	}
}

func TestDeleteAndAddAgain(t *testing.T) {
	p := newDesk(t, 0, nil)
	wantRefused(t, p, api.Admin{Kind: api.Delete, Name: "web"}, api.ErrNone)
	for range 3 {
		wantAdmin(t, p, add("web"), api.OK)
		wantRefused(t, p, add("web"), api.ErrThere)
		wantAdmin(t, p, api.Admin{Kind: api.Rekey, Name: "web"}, api.OK)
		wantState(t, p, api.State{Names: []string{"web"}, Numbers: []int{2}})
		wantAdmin(t, p, api.Admin{Kind: api.Delete, Name: "web", Life: -1, Flags: 64}, api.OK)
		wantState(t, p, api.State{})
		for _, kind := range []int{api.Delete, api.Rekey, api.Repolicy} {
			wantRefused(t, p, api.Admin{Kind: kind, Name: "web"}, api.ErrNone)
		}
	}
}

func TestNamesAreSortedByteByByte(t *testing.T) {
	sorted := []string{"/", "//", "/0", "/a", "0", "0/", "10", "9", "99", "a", "a/", "a0", "a10", "a9", "aa", "ab", "b", "z", "zz"}
	r := rand.New(rand.NewSource(17))
	for range 20 {
		p := newDesk(t, 0, nil)
		numbers := make([]int, len(sorted))
		for _, i := range r.Perm(len(sorted)) {
			wantAdmin(t, p, add(sorted[i]), api.OK)
			numbers[i] = 1 + r.Intn(4)
			for range numbers[i] - 1 {
				wantAdmin(t, p, api.Admin{Kind: api.Rekey, Name: sorted[i]}, api.OK)
			}
		}
		wantState(t, p, api.State{Names: sorted, Numbers: numbers})
	}
}

func TestListsOfStateAreTheCallers(t *testing.T) {
	p := newDesk(t, 0, make([]byte, 5))
	want := api.State{Left: 5}
	for _, name := range []string{"", "a", "b", "c", "d", "e"} {
		if name != "" {
			wantAdmin(t, p, add(name), api.OK)
			want.Names, want.Numbers = append(want.Names, name), append(want.Numbers, 1)
		}
		other := p.State()
		s := p.State()
		for i := range s.Names[:cap(s.Names)] {
			s.Names[:cap(s.Names)][i] = "spoilt"
		}
		for i := range s.Numbers[:cap(s.Numbers)] {
			s.Numbers[:cap(s.Numbers)][i] = -9
		}
		_, _ = append(s.Names, "behind"), append(s.Numbers, -8)
		if !sameState(other, want) {
			t.Errorf("P2: two States share memory: %+v, want %+v", other, want)
		}
		wantState(t, p, want)
	}
	// A list that came out earlier is not changed by what is done later.
	kept := p.State()
	wantAdmin(t, p, api.Admin{Kind: api.Rekey, Name: "a"}, api.OK)
	wantAdmin(t, p, api.Admin{Kind: api.Delete, Name: "b"}, api.OK)
	if !sameState(kept, want) {
		t.Errorf("P2: a State that came out is changed: %+v, want %+v", kept, want)
	}
}

func TestDesksSideBySide(t *testing.T) {
	draws := make([]byte, 40)
	p, q := newDesk(t, 10, draws), newDesk(t, 10, draws)
	wantAdmin(t, p, add("web"), api.OK)
	wantState(t, q, api.State{Left: 40})
	wantAdmin(t, q, add("web"), api.OK)
	wantAdmin(t, q, add("al"), api.OK)
	wantAdmin(t, p, api.Admin{Kind: api.Rekey, Name: "web"}, api.OK)
	wantState(t, q, api.State{Names: []string{"al", "web"}, Numbers: []int{1, 1}, Left: 40})
	wantAdmin(t, q, api.Admin{Kind: api.Delete, Name: "web"}, api.OK)
	wantState(t, p, api.State{Names: []string{"web"}, Numbers: []int{2}, Left: 40})
	copied := p.copied()
	wantAdmin(t, copied, add("bo"), api.OK)
	wantAdmin(t, copied, api.Admin{Kind: api.Rekey, Name: "web"}, api.OK)
	wantState(t, p, api.State{Names: []string{"web"}, Numbers: []int{2}, Left: 40})
}

func TestDesksThatNoCallMade(t *testing.T) {
	none := noDesk(t)
	for kind := -1; kind <= 6; kind++ {
		if e := none.Admin(api.Admin{Kind: kind, Name: "web"}); e != api.ErrArg {
			t.Errorf("P1: Admin of kind %d at no desk = %d, want ErrArg", kind, e)
		}
	}
	wantState(t, none, api.State{})
	zero := zeroDesk(t)
	wantState(t, zero, api.State{})
	wantRefused(t, zero, api.Admin{Kind: api.Rekey, Name: "web"}, api.ErrNone)
	wantAdmin(t, zero, add("web"), api.OK)
	wantState(t, zero, api.State{Names: []string{"web"}, Numbers: []int{1}})
}

// expected works out anew what Admin does to some entries, by name their key numbers.
func expected(entries map[string]int, a api.Admin) api.Errno {
	_, there := entries[a.Name]
	wrong := a.Life < 0 || a.Renew < 0 || a.Flags < 0 || a.Flags > 63
	switch {
	case a.Kind < 1 || a.Kind > 4:
		return api.ErrArg
	case a.Kind == api.Add && (a.Name == "" || len(a.Name) > 16 || strings.Trim(a.Name, "abcdefghijklmnopqrstuvwxyz0123456789/") != ""):
		return api.ErrName
	case a.Kind == api.Add && wrong:
		return api.ErrArg
	case a.Kind == api.Add && there:
		return api.ErrThere
	case a.Kind == api.Add && len(entries) >= 20:
		return api.ErrFull
	case a.Kind != api.Add && !there:
		return api.ErrNone
	case a.Kind == api.Repolicy && wrong:
		return api.ErrArg
	case a.Kind == api.Delete:
		delete(entries, a.Name)
	case a.Kind == api.Add || a.Kind == api.Rekey:
		entries[a.Name]++
	}
	return api.OK
}

func randomAdmin(r *rand.Rand) api.Admin {
	kinds := []int{1, 1, 1, 1, 2, 3, 3, 4, 0, 5}
	const letters = "ab/0zA"
	name := make([]byte, r.Intn(3))
	for i := range name {
		name[i] = letters[r.Intn(len(letters))]
	}
	a := api.Admin{Kind: kinds[r.Intn(len(kinds))], Name: string(name), Key: r.Uint64(), Expire: int64(r.Uint64())}
	if r.Intn(4) == 0 {
		a.Life, a.Renew, a.Flags = int64(r.Intn(9)-2), int64(r.Intn(9)-2), r.Intn(70)-2
	}
	return a
}

func TestManyAdmins(t *testing.T) {
	r := rand.New(rand.NewSource(23))
	for range 50 {
		p := newDesk(t, 0, make([]byte, 3))
		entries := make(map[string]int)
		for range 300 {
			a := randomAdmin(r)
			wantAdmin(t, p, a, expected(entries, a))
			want := api.State{Left: 3}
			for name := range entries {
				want.Names = append(want.Names, name)
			}
			slices.Sort(want.Names)
			for _, name := range want.Names {
				want.Numbers = append(want.Numbers, entries[name])
			}
			wantState(t, p, want)
		}
	}
}
