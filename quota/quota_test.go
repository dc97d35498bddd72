package quota_test

import (
	"math"
	"math/rand/v2"
	"slices"
	"strings"
	"testing"

	"haversack/api"
	"haversack/quota"
)

const most = 1000000000

// mixed tells numbers that look mixed and are the same in each run.
func mixed(seed uint64) *rand.Rand { return rand.New(rand.NewPCG(seed, 17)) }

func use(bytes, entries int) api.Use { return api.Use{Bytes: bytes, Entries: entries} }

func tenant(name string, bytes, entries int) api.Tenant {
	return api.Tenant{Name: name, Bytes: bytes, Entries: entries}
}

func made(t *testing.T, l ...api.Tenant) *quota.Book {
	t.Helper()
	b, e := quota.New(l)
	if b == nil || e != api.OK {
		t.Fatalf("New(%d tenants): %d", len(l), e)
	}
	return b
}

// some is the book of the chapter's examples.
func some(t *testing.T) *quota.Book {
	t.Helper()
	return made(t, tenant("a", 10, 2), tenant("b", 5, 5))
}

// refused tells that neither Check nor New takes the list.
func refused(t *testing.T, want api.Errno, l ...api.Tenant) {
	t.Helper()
	if e := quota.Check(l); e != want {
		t.Errorf("Check(%d tenants, %.200v): %d, not %d", len(l), l, e, want)
	}
	if b, e := quota.New(l); b != nil || e != want {
		t.Errorf("New(%d tenants, %.200v): a book %v, %d; not %d", len(l), l, b != nil, e, want)
	}
}

func sets(t *testing.T, b *quota.Book, name string, u api.Use, e api.Errno) {
	t.Helper()
	if f := b.Set(name, u); f != e {
		t.Errorf("Set(%.40q, %v): %d, not %d", name, u, f, e)
	}
}

func uses(t *testing.T, b *quota.Book, name string, u api.Use, e api.Errno) {
	t.Helper()
	if v, f := b.Use(name); v != u || f != e {
		t.Errorf("Use(%.40q): %v, %d; not %v, %d", name, v, f, u, e)
	}
}

func leaves(t *testing.T, b *quota.Book, name string, u api.Use, e api.Errno) {
	t.Helper()
	if v, f := b.Left(name); v != u || f != e {
		t.Errorf("Left(%.40q): %v, %d; not %v, %d", name, v, f, u, e)
	}
}

func reserves(t *testing.T, b *quota.Book, name string, more api.Use, id int, e api.Errno) {
	t.Helper()
	if n, f := b.Reserve(name, more); n != id || f != e {
		t.Errorf("Reserve(%.40q, %v): %d, %d; not %d, %d", name, more, n, f, id, e)
	}
}

func takes(t *testing.T, b *quota.Book, id int, e api.Errno) {
	t.Helper()
	if f := b.Take(id); f != e {
		t.Errorf("Take(%d): %d, not %d", id, f, e)
	}
}

func frees(t *testing.T, b *quota.Book, id int, e api.Errno) {
	t.Helper()
	if f := b.Free(id); f != e {
		t.Errorf("Free(%d): %d, not %d", id, f, e)
	}
}

func TestTheExamples(t *testing.T) {
	b := some(t)
	reserves(t, b, "a", use(6, 1), 1, api.OK)
	reserves(t, b, "a", use(6, 0), 0, api.ErrQuota)
	leaves(t, b, "a", use(4, 1), api.OK)
	takes(t, b, 1, api.OK)
	uses(t, b, "a", use(6, 1), api.OK)
	takes(t, b, 1, api.ErrQuotaNone)
	reserves(t, b, "a", use(4, 1), 2, api.OK)
	frees(t, b, 2, api.OK)
	leaves(t, b, "a", use(4, 1), api.OK)
	reserves(t, b, "a", use(-9, 1), 3, api.OK)
	takes(t, b, 3, api.OK)
	uses(t, b, "a", use(0, 2), api.OK)
	sets(t, b, "b", use(9, 0), api.OK)
	leaves(t, b, "b", use(0, 5), api.OK)
	reserves(t, b, "b", use(0, 1), 4, api.OK)
	reserves(t, b, "b", use(1, 0), 0, api.ErrQuota)
	uses(t, b, "c", use(0, 0), api.ErrQuotaTenant)
}

func TestP17_1NewBooks(t *testing.T) {
	var l []api.Tenant
	for i := range 9 {
		if e := quota.Check(l); e != api.OK {
			t.Errorf("Check(%d tenants): %d", len(l), e)
		}
		b := made(t, l...)
		for _, x := range l {
			uses(t, b, x.Name, use(0, 0), api.OK)
			leaves(t, b, x.Name, use(x.Bytes, x.Entries), api.OK)
		}
		uses(t, b, string(rune('a'+i)), use(0, 0), api.ErrQuotaTenant)
		for _, id := range []int{-1, 0, 1} {
			takes(t, b, id, api.ErrQuotaNone)
			frees(t, b, id, api.ErrQuotaNone)
		}
		l = append(l, api.Tenant{Name: string(rune('a' + i)), Secret: strings.Repeat("k", 8*i), Bytes: most - i, Entries: i})
	}
	refused(t, api.ErrLong, l...)
}

func TestP17_1ListsThatMayNotBe(t *testing.T) {
	refused(t, api.ErrLong, make([]api.Tenant, 9)...)
	refused(t, api.ErrLong, make([]api.Tenant, 100000)...)
	refused(t, api.ErrArg, make([]api.Tenant, 8)...)
	for _, bad := range []api.Tenant{
		{}, {Name: "A"}, {Name: "a.b"}, {Name: "a_b"}, {Name: "a/b"}, {Name: " a"}, {Name: "é"}, {Name: strings.Repeat("a", 17)},
		{Name: "a", Secret: strings.Repeat("k", 65)}, {Name: "a", Secret: strings.Repeat("k", 1<<20)},
		{Name: "a", Bytes: -1}, {Name: "a", Bytes: most + 1}, {Name: "a", Bytes: math.MinInt}, {Name: "a", Bytes: math.MaxInt},
		{Name: "a", Entries: -1}, {Name: "a", Entries: most + 1}, {Name: "a", Entries: math.MinInt}, {Name: "a", Entries: math.MaxInt},
	} {
		refused(t, api.ErrArg, bad)
		refused(t, api.ErrArg, tenant("g", 1, 1), bad)
		refused(t, api.ErrArg, bad, tenant("g", 1, 1))
	}
	refused(t, api.ErrArg, tenant("g", 1, 1), tenant("g", 1, 1))
	refused(t, api.ErrArg, tenant("g", 1, 1), tenant("h", 1, 1), tenant("g", 2, 2), tenant("i", 1, 1))
	made(t, api.Tenant{Name: "abcdefghijklmnop", Secret: strings.Repeat("k", 64), Bytes: most, Entries: most})
}

// A book keeps what the tenants were, not the list.
func TestR2TheListOfTenantsIsNotKept(t *testing.T) {
	room := []api.Tenant{tenant("a", 10, 2), tenant("b", 5, 5), tenant("spare", 3, 3)}
	was := slices.Clone(room)
	b := made(t, room[:2]...)
	reserves(t, b, "a", use(1, 1), 1, api.OK)
	takes(t, b, 1, api.OK)
	if !slices.Equal(room, was) {
		t.Errorf("the list that was handed in is %v", room)
	}
	clear(room)
	leaves(t, b, "a", use(9, 1), api.OK)
	leaves(t, b, "b", use(5, 5), api.OK)
	leaves(t, b, "spare", use(0, 0), api.ErrQuotaTenant)
}

var nobodys = []string{"", "c", "A", "aa", "a ", "a\x00", "ab", strings.Repeat("a", 17), strings.Repeat("a", 1<<20)}

// Numbers that no use and no change of one may have; each of them in both places.
var beyond = []int{most + 1, 1 << 31, 1 << 32, math.MaxInt, -most - 1, -1 << 31, -1 << 32, math.MinInt}

func inBothPlaces(n int, f func(u api.Use)) {
	for _, other := range []int{0, 1, most, n} {
		f(use(n, other))
		f(use(other, n))
	}
}

func TestP17_2SetAndUse(t *testing.T) {
	b := some(t)
	for _, u := range []api.Use{use(1, 0), use(0, 1), use(10, 2), use(11, 2), use(10, 3), use(most, most), use(most, 0), use(0, most), use(0, 0), use(7, 1)} {
		sets(t, b, "a", u, api.OK)
		uses(t, b, "a", u, api.OK)
		uses(t, b, "b", use(0, 0), api.OK)
	}
	for _, n := range append([]int{-1, -2, -most}, beyond...) {
		inBothPlaces(n, func(u api.Use) {
			sets(t, b, "a", u, api.ErrArg)
			uses(t, b, "a", use(7, 1), api.OK)
			leaves(t, b, "a", use(3, 1), api.OK)
		})
	}
}

func TestNobodysCalls(t *testing.T) {
	for _, b := range []*quota.Book{some(t), made(t)} {
		for _, name := range nobodys {
			for _, n := range []int{0, 1, -1, most, most + 1, -most - 1, math.MinInt, math.MaxInt} {
				sets(t, b, name, use(n, 0), api.ErrQuotaTenant)
				sets(t, b, name, use(0, n), api.ErrQuotaTenant)
				reserves(t, b, name, use(n, 0), 0, api.ErrQuotaTenant)
				reserves(t, b, name, use(0, n), 0, api.ErrQuotaTenant)
			}
			uses(t, b, name, use(0, 0), api.ErrQuotaTenant)
			leaves(t, b, name, use(0, 0), api.ErrQuotaTenant)
		}
	}
	b := made(t)
	uses(t, b, "a", use(0, 0), api.ErrQuotaTenant)
	reserves(t, b, "a", use(0, 0), 0, api.ErrQuotaTenant)
	frees(t, b, 1, api.ErrQuotaNone)
}

func TestP17_3Left(t *testing.T) {
	b := some(t)
	leaves(t, b, "a", use(10, 2), api.OK)
	reserves(t, b, "a", use(3, 0), 1, api.OK)
	leaves(t, b, "a", use(7, 2), api.OK)
	reserves(t, b, "a", use(0, 2), 2, api.OK)
	leaves(t, b, "a", use(7, 0), api.OK)
	sets(t, b, "a", use(4, 1), api.OK)
	leaves(t, b, "a", use(3, 0), api.OK)
	sets(t, b, "a", use(7, 0), api.OK)
	leaves(t, b, "a", use(0, 0), api.OK)
	sets(t, b, "a", use(8, 0), api.OK)
	leaves(t, b, "a", use(0, 0), api.OK)
	frees(t, b, 2, api.OK)
	leaves(t, b, "a", use(0, 2), api.OK)
	sets(t, b, "a", use(most, most), api.OK)
	leaves(t, b, "a", use(0, 0), api.OK)
	frees(t, b, 1, api.OK)
	sets(t, b, "a", use(0, 0), api.OK)
	leaves(t, b, "a", use(10, 2), api.OK)
	leaves(t, b, "b", use(5, 5), api.OK)
}

func TestP17_4TheEdgeOfWhatIsLeft(t *testing.T) {
	for bytes := range 14 {
		for entries := range 5 {
			b := some(t)
			reserves(t, b, "a", use(2, 0), 1, api.OK)
			sets(t, b, "a", use(1, 1), api.OK)
			if bytes <= 7 && entries <= 1 {
				reserves(t, b, "a", use(bytes, entries), 2, api.OK)
				leaves(t, b, "a", use(7-bytes, 1-entries), api.OK)
			} else {
				reserves(t, b, "a", use(bytes, entries), 0, api.ErrQuota)
				leaves(t, b, "a", use(7, 1), api.OK)
			}
			uses(t, b, "a", use(1, 1), api.OK)
		}
	}
}

func TestP17_4NumbersThatMayNotBe(t *testing.T) {
	b := made(t, tenant("a", most, most), tenant("b", 0, 0))
	for _, n := range beyond {
		inBothPlaces(n, func(u api.Use) {
			reserves(t, b, "a", u, 0, api.ErrArg)
			// ErrArg stands ahead of ErrQuota.
			reserves(t, b, "b", u, 0, api.ErrArg)
		})
	}
	reserves(t, b, "b", use(most, most), 0, api.ErrQuota)
	reserves(t, b, "b", use(-most, -most), 1, api.OK)
	reserves(t, b, "a", use(most, most), 2, api.OK)
	leaves(t, b, "a", use(0, 0), api.OK)
	reserves(t, b, "a", use(1, 0), 0, api.ErrQuota)
	reserves(t, b, "a", use(0, 1), 0, api.ErrQuota)
	reserves(t, b, "a", use(-most, 0), 3, api.OK)
}

// Numbers go on, whatever was refused, taken or freed, and whichever tenant it is.
func TestP17_4NumbersInARow(t *testing.T) {
	b, other := some(t), some(t)
	r := mixed(1)
	for id := 1; id <= 3000; id++ {
		name := []string{"a", "b"}[r.IntN(2)]
		reserves(t, b, name, use(r.IntN(6), r.IntN(3)), id, api.OK)
		switch r.IntN(4) {
		case 0:
			reserves(t, b, name, use(11, 0), 0, api.ErrQuota)
		case 1:
			reserves(t, b, name, use(0, most+1), 0, api.ErrArg)
		case 2:
			reserves(t, b, "c", use(0, 0), 0, api.ErrQuotaTenant)
		}
		if r.IntN(2) == 0 {
			takes(t, b, id, api.OK)
			sets(t, b, name, use(0, 0), api.OK)
		} else {
			frees(t, b, id, api.OK)
		}
	}
	reserves(t, other, "b", use(1, 1), 1, api.OK)
}

// A tenant that has more than it may can still reserve what adds nothing, and what makes it less.
func TestP17_4NothingAndLessThanNothing(t *testing.T) {
	b := some(t)
	sets(t, b, "a", use(100, 50), api.OK)
	reserves(t, b, "a", use(0, 0), 1, api.OK)
	reserves(t, b, "a", use(-30, 0), 2, api.OK)
	reserves(t, b, "a", use(0, -20), 3, api.OK)
	reserves(t, b, "a", use(-most, -most), 4, api.OK)
	reserves(t, b, "a", use(-1, 1), 0, api.ErrQuota)
	reserves(t, b, "a", use(1, -1), 0, api.ErrQuota)
	leaves(t, b, "a", use(0, 0), api.OK)
	takes(t, b, 1, api.OK)
	uses(t, b, "a", use(100, 50), api.OK)
	takes(t, b, 3, api.OK)
	uses(t, b, "a", use(100, 30), api.OK)
	takes(t, b, 2, api.OK)
	uses(t, b, "a", use(70, 30), api.OK)
	takes(t, b, 4, api.OK)
	uses(t, b, "a", use(0, 0), api.OK)
	leaves(t, b, "a", use(10, 2), api.OK)
}

// What is below 0 gives no room ahead of being taken, nor does it take any away.
func TestP17_4LessReservesNothing(t *testing.T) {
	b := some(t)
	sets(t, b, "a", use(6, 1), api.OK)
	reserves(t, b, "a", use(-5, 1), 1, api.OK)
	leaves(t, b, "a", use(4, 0), api.OK)
	reserves(t, b, "a", use(5, 0), 0, api.ErrQuota)
	reserves(t, b, "a", use(2, -1), 2, api.OK)
	leaves(t, b, "a", use(2, 0), api.OK)
	frees(t, b, 1, api.OK)
	leaves(t, b, "a", use(2, 1), api.OK)
	frees(t, b, 2, api.OK)
	leaves(t, b, "a", use(4, 1), api.OK)
	reserves(t, b, "a", use(-5, 1), 3, api.OK)
	takes(t, b, 3, api.OK)
	uses(t, b, "a", use(1, 2), api.OK)
	leaves(t, b, "a", use(9, 0), api.OK)
}

func TestP17_5Take(t *testing.T) {
	b := some(t)
	reserves(t, b, "a", use(3, 1), 1, api.OK)
	reserves(t, b, "b", use(4, 0), 2, api.OK)
	uses(t, b, "a", use(0, 0), api.OK)
	takes(t, b, 2, api.OK)
	uses(t, b, "a", use(0, 0), api.OK)
	uses(t, b, "b", use(4, 0), api.OK)
	leaves(t, b, "b", use(1, 5), api.OK)
	// It is added to the use as it is now, not as it was when it was reserved; that may be more than may be.
	sets(t, b, "a", use(9, 2), api.OK)
	takes(t, b, 1, api.OK)
	uses(t, b, "a", use(12, 3), api.OK)
	leaves(t, b, "a", use(0, 0), api.OK)
	takes(t, b, 1, api.ErrQuotaNone)
	takes(t, b, 2, api.ErrQuotaNone)
	uses(t, b, "a", use(12, 3), api.OK)
	uses(t, b, "b", use(4, 0), api.OK)
}

// Each of the two is 0 by itself, if it would be below.
func TestP17_5TakeNeverGoesBelowNought(t *testing.T) {
	for bytes := -8; bytes <= 0; bytes++ {
		for entries := -5; entries <= 0; entries++ {
			b := some(t)
			sets(t, b, "a", use(5, 2), api.OK)
			reserves(t, b, "a", use(bytes, entries), 1, api.OK)
			takes(t, b, 1, api.OK)
			uses(t, b, "a", use(max(0, 5+bytes), max(0, 2+entries)), api.OK)
		}
	}
	b := some(t)
	reserves(t, b, "a", use(-most, -most), 1, api.OK)
	takes(t, b, 1, api.OK)
	uses(t, b, "a", use(0, 0), api.OK)
	leaves(t, b, "a", use(10, 2), api.OK)
}

func TestP17_5Free(t *testing.T) {
	b := some(t)
	sets(t, b, "a", use(1, 0), api.OK)
	reserves(t, b, "a", use(9, 2), 1, api.OK)
	reserves(t, b, "b", use(5, 5), 2, api.OK)
	frees(t, b, 1, api.OK)
	uses(t, b, "a", use(1, 0), api.OK)
	leaves(t, b, "a", use(9, 2), api.OK)
	leaves(t, b, "b", use(0, 0), api.OK)
	frees(t, b, 1, api.ErrQuotaNone)
	takes(t, b, 1, api.ErrQuotaNone)
	leaves(t, b, "a", use(9, 2), api.OK)
	takes(t, b, 2, api.OK)
	frees(t, b, 2, api.ErrQuotaNone)
	uses(t, b, "b", use(5, 5), api.OK)
	reserves(t, b, "a", use(9, 2), 3, api.OK)
}

func TestP17_5NumbersThatThereAreNot(t *testing.T) {
	b := some(t)
	reserves(t, b, "a", use(1, 1), 1, api.OK)
	reserves(t, b, "a", use(1, 1), 2, api.OK)
	frees(t, b, 1, api.OK)
	for _, id := range []int{0, 1, 3, -1, -2, 1 << 32, 1<<32 + 2, math.MaxInt, math.MinInt} {
		takes(t, b, id, api.ErrQuotaNone)
		frees(t, b, id, api.ErrQuotaNone)
	}
	leaves(t, b, "a", use(9, 1), api.OK)
	uses(t, b, "a", use(0, 0), api.OK)
	takes(t, b, 2, api.OK)
}

// As much as may be, of all: nothing wraps round.
func TestTheGreatestNumbers(t *testing.T) {
	b := made(t, tenant("a", most, most), tenant("b", 0, 0))
	reserves(t, b, "a", use(most, most), 1, api.OK)
	sets(t, b, "a", use(most, most), api.OK)
	leaves(t, b, "a", use(0, 0), api.OK)
	takes(t, b, 1, api.OK)
	uses(t, b, "a", use(2*most, 2*most), api.OK)
	leaves(t, b, "a", use(0, 0), api.OK)
	reserves(t, b, "a", use(1, 0), 0, api.ErrQuota)
	for id := 2; id < 5; id++ {
		reserves(t, b, "a", use(-most, -most), id, api.OK)
		takes(t, b, id, api.OK)
		uses(t, b, "a", use(max(0, (3-id)*most), max(0, (3-id)*most)), api.OK)
	}
	leaves(t, b, "a", use(most, most), api.OK)
	sets(t, b, "b", use(most, most), api.OK)
	leaves(t, b, "b", use(0, 0), api.OK)
}

// shadow is what a book is by the words of the chapter: lists, of which all is summed up each time.
type shadow struct {
	tenants []api.Tenant
	use     []api.Use
	made    []pledge
}

type pledge struct {
	whose int
	more  api.Use
	gone  bool
}

func shadowOf(l ...api.Tenant) *shadow { return &shadow{tenants: l, use: make([]api.Use, len(l))} }

func (s *shadow) at(name string) int {
	return slices.IndexFunc(s.tenants, func(x api.Tenant) bool { return x.Name == name })
}

func (s *shadow) left(i int) api.Use {
	bytes, entries := s.tenants[i].Bytes-s.use[i].Bytes, s.tenants[i].Entries-s.use[i].Entries
	for _, p := range s.made {
		if p.whose != i || p.gone {
			continue
		}
		if p.more.Bytes > 0 {
			bytes -= p.more.Bytes
		}
		if p.more.Entries > 0 {
			entries -= p.more.Entries
		}
	}
	return use(max(bytes, 0), max(entries, 0))
}

func between(u api.Use, low int) bool {
	return min(u.Bytes, u.Entries) >= low && max(u.Bytes, u.Entries) <= most
}

func (s *shadow) set(name string, u api.Use) api.Errno {
	i := s.at(name)
	if i < 0 {
		return api.ErrQuotaTenant
	}
	if !between(u, 0) {
		return api.ErrArg
	}
	s.use[i] = u
	return api.OK
}

func (s *shadow) reserve(name string, more api.Use) (int, api.Errno) {
	i := s.at(name)
	if i < 0 {
		return 0, api.ErrQuotaTenant
	}
	if !between(more, -most) {
		return 0, api.ErrArg
	}
	left := s.left(i)
	if more.Bytes > 0 && more.Bytes > left.Bytes || more.Entries > 0 && more.Entries > left.Entries {
		return 0, api.ErrQuota
	}
	s.made = append(s.made, pledge{whose: i, more: more})
	return len(s.made), api.OK
}

func (s *shadow) end(id int, taken bool) api.Errno {
	if id < 1 || id > len(s.made) || s.made[id-1].gone {
		return api.ErrQuotaNone
	}
	p := &s.made[id-1]
	p.gone = true
	if taken {
		u := &s.use[p.whose]
		u.Bytes, u.Entries = max(u.Bytes+p.more.Bytes, 0), max(u.Entries+p.more.Entries, 0)
	}
	return api.OK
}

// alike tells that the book answers of each tenant what the shadow says.
func (s *shadow) alike(t *testing.T, b *quota.Book) {
	t.Helper()
	for i, x := range s.tenants {
		uses(t, b, x.Name, s.use[i], api.OK)
		leaves(t, b, x.Name, s.left(i), api.OK)
	}
}

// call does one call on both.
type call func(t *testing.T, b *quota.Book, s *shadow)

func reserving(name string, more api.Use) call {
	return func(t *testing.T, b *quota.Book, s *shadow) {
		t.Helper()
		id, e := s.reserve(name, more)
		reserves(t, b, name, more, id, e)
	}
}

func setting(name string, u api.Use) call {
	return func(t *testing.T, b *quota.Book, s *shadow) {
		t.Helper()
		sets(t, b, name, u, s.set(name, u))
	}
}

func taking(id int) call {
	return func(t *testing.T, b *quota.Book, s *shadow) {
		t.Helper()
		takes(t, b, id, s.end(id, true))
	}
}

func freeing(id int) call {
	return func(t *testing.T, b *quota.Book, s *shadow) {
		t.Helper()
		frees(t, b, id, s.end(id, false))
	}
}

// All rows of five calls of eleven kinds.
func TestAllShortRowsAsTheWordsSay(t *testing.T) {
	kinds := []call{
		reserving("a", use(2, 1)), reserving("a", use(-1, 1)), reserving("a", use(3, -1)), reserving("b", use(1, 0)), reserving("b", use(-2, 0)),
		setting("a", use(2, 1)), setting("b", use(2, 0)), taking(1), taking(2), freeing(1), freeing(2),
	}
	rows := 1
	for range 5 {
		rows *= len(kinds)
	}
	for row := range rows {
		l := []api.Tenant{tenant("a", 4, 2), tenant("b", 1, 1)}
		b, s := made(t, l...), shadowOf(l...)
		for rest, n := row, 0; n < 5; n++ {
			kinds[rest%len(kinds)](t, b, s)
			rest /= len(kinds)
		}
		s.alike(t, b)
		if t.Failed() {
			t.Fatalf("row %d", row)
		}
	}
}

// near tells numbers about n, and seldom some that are far away.
func near(r *rand.Rand, n int) int {
	switch r.IntN(40) {
	case 0:
		return most + r.IntN(3) - 1
	case 1:
		return -most + r.IntN(3) - 1
	case 2:
		return []int{math.MinInt, math.MaxInt, 1 << 32, -1 << 32}[r.IntN(4)]
	}
	return r.IntN(2*n+1) - n
}

func anyCall(r *rand.Rand, s *shadow) call {
	name := []string{"a", "b", "c", "d"}[r.IntN(4)]
	n := 1 + r.IntN(20)
	id := r.IntN(len(s.made)+3) - 1
	switch r.IntN(8) {
	case 0:
		return setting(name, use(max(-1, near(r, n)), max(-1, near(r, n))))
	case 1, 2:
		return taking(id)
	case 3:
		return freeing(id)
	}
	return reserving(name, use(near(r, n), near(r, n)))
}

func TestMixedCallsAsTheWordsSay(t *testing.T) {
	for seed := range uint64(200) {
		r := mixed(100 + seed)
		l := []api.Tenant{tenant("a", r.IntN(30), r.IntN(30)), tenant("b", most-r.IntN(3), r.IntN(9)), tenant("c", 0, most)}[:1+r.IntN(3)]
		b, s := made(t, l...), shadowOf(l...)
		for range 300 {
			anyCall(r, s)(t, b, s)
			s.alike(t, b)
		}
		if t.Failed() {
			t.Fatalf("seed %d", seed)
		}
	}
}

// T7: from a use that is within, with nothing reserved, reserving, taking and freeing never lead beyond what may be.
func TestP17_6TakeAloneStaysWithin(t *testing.T) {
	for seed := range uint64(100) {
		r := mixed(1000 + seed)
		may := use(r.IntN(40), r.IntN(10))
		b := made(t, tenant("a", may.Bytes, may.Entries))
		sets(t, b, "a", use(r.IntN(may.Bytes+1), r.IntN(may.Entries+1)), api.OK)
		last := 0
		for range 500 {
			if id, e := b.Reserve("a", use(r.IntN(25)-8, r.IntN(8)-3)); e == api.OK {
				last = id
			}
			switch id := 1 + r.IntN(last+1); r.IntN(3) {
			case 0:
				b.Free(id)
			default:
				b.Take(id)
			}
			u, e := b.Use("a")
			if e != api.OK || u.Bytes < 0 || u.Entries < 0 || u.Bytes > may.Bytes || u.Entries > may.Entries {
				t.Fatalf("seed %d: %v of %v, %d", seed, u, may, e)
			}
		}
	}
}

func TestP17_6ReservedAndFreedLeavesAllAsItWas(t *testing.T) {
	r := mixed(2)
	for range 200 {
		b := some(t)
		sets(t, b, "a", use(r.IntN(14), r.IntN(4)), api.OK)
		b.Reserve("a", use(r.IntN(4), r.IntN(2)))
		u, _ := b.Use("a")
		l, _ := b.Left("a")
		var ids []int
		for range 10 {
			if id, e := b.Reserve("a", use(r.IntN(8)-3, r.IntN(4)-2)); e == api.OK {
				ids = append(ids, id)
			}
		}
		r.Shuffle(len(ids), func(i, j int) { ids[i], ids[j] = ids[j], ids[i] })
		for _, id := range ids {
			frees(t, b, id, api.OK)
		}
		uses(t, b, "a", u, api.OK)
		leaves(t, b, "a", l, api.OK)
		leaves(t, b, "b", use(5, 5), api.OK)
	}
}

// What b is answered is the same, whatever a asks for in between, but for the reservations' numbers.
func TestP17_6TenantsKnowNothingOfOneAnother(t *testing.T) {
	for seed := range uint64(50) {
		r, other := mixed(2000+seed), mixed(3000+seed)
		alone, shared := some(t), some(t)
		var ids [][2]int
		for range 200 {
			for range other.IntN(3) {
				id, _ := shared.Reserve("a", use(other.IntN(9)-3, other.IntN(4)-1))
				if other.IntN(2) == 0 {
					shared.Take(id)
				}
				shared.Set("a", use(other.IntN(99), other.IntN(9)))
			}
			switch more := use(r.IntN(7)-2, r.IntN(7)-2); {
			case len(ids) > 0 && r.IntN(2) == 0:
				at := r.IntN(len(ids))
				takes(t, shared, ids[at][1], alone.Take(ids[at][0]))
				ids = slices.Delete(ids, at, at+1)
			default:
				x, e := alone.Reserve("b", more)
				y, f := shared.Reserve("b", more)
				if e != f {
					t.Fatalf("seed %d: Reserve(b, %v): %d alone, %d beside another", seed, more, e, f)
				}
				if e == api.OK {
					ids = append(ids, [2]int{x, y})
				}
			}
			u, e := alone.Use("b")
			uses(t, shared, "b", u, e)
			l, e := alone.Left("b")
			leaves(t, shared, "b", l, e)
		}
	}
}

func TestR2BooksAreApart(t *testing.T) {
	b, other := some(t), some(t)
	if b == other {
		t.Fatal("New gave one book twice")
	}
	reserves(t, b, "a", use(6, 1), 1, api.OK)
	sets(t, b, "b", use(1, 1), api.OK)
	takes(t, other, 1, api.ErrQuotaNone)
	leaves(t, other, "a", use(10, 2), api.OK)
	uses(t, other, "b", use(0, 0), api.OK)
	reserves(t, other, "a", use(10, 2), 1, api.OK)
	frees(t, other, 1, api.OK)
	takes(t, b, 1, api.OK)
	uses(t, b, "a", use(6, 1), api.OK)
}

// Use and Left change nothing, however often they are asked, and what was refused leaves nothing behind.
func TestWhatIsAskedOrRefusedChangesNothing(t *testing.T) {
	b := some(t)
	reserves(t, b, "a", use(4, 1), 1, api.OK)
	for range 3 {
		leaves(t, b, "a", use(6, 1), api.OK)
		uses(t, b, "a", use(0, 0), api.OK)
		reserves(t, b, "a", use(7, 1), 0, api.ErrQuota)
		reserves(t, b, "a", use(6, 2), 0, api.ErrQuota)
		reserves(t, b, "a", use(1, most+1), 0, api.ErrArg)
		sets(t, b, "a", use(3, -1), api.ErrArg)
		takes(t, b, 2, api.ErrQuotaNone)
		frees(t, b, 2, api.ErrQuotaNone)
	}
	reserves(t, b, "a", use(6, 1), 2, api.OK)
}

func TestR3NilBook(t *testing.T) {
	var b *quota.Book
	for _, name := range append([]string{"a"}, nobodys...) {
		for _, n := range []int{0, 1, -1, most + 1, math.MinInt} {
			sets(t, b, name, use(n, n), api.ErrNil)
			reserves(t, b, name, use(n, n), 0, api.ErrNil)
		}
		uses(t, b, name, use(0, 0), api.ErrNil)
		leaves(t, b, name, use(0, 0), api.ErrNil)
	}
	for _, id := range []int{0, 1, -1, math.MaxInt} {
		takes(t, b, id, api.ErrNil)
		frees(t, b, id, api.ErrNil)
	}
}
