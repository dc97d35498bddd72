package valid_test

import (
	"fmt"
	"math"
	"math/rand/v2"
	"slices"
	"strconv"
	"strings"
	"testing"

	"haversack/api"
	"haversack/valid"
)

// mixed tells numbers that look mixed and are the same in each run.
func mixed(seed uint64) *rand.Rand { return rand.New(rand.NewPCG(seed, 13)) }

func key(tenant, archive, entry string) api.Key {
	return api.Key{Tenant: tenant, Archive: archive, Entry: entry}
}

func box(k api.Key) api.Box { return api.Box{Tenant: k.Tenant, Archive: k.Archive} }

func has(k api.Key, data string) api.Write { return api.Write{Key: k, There: true, Data: data} }

func gone(k api.Key) api.Write { return api.Write{Key: k} }

func commit(at int, w ...api.Write) api.Commit { return api.Commit{At: at, Writes: w} }

// writes is a commit that writes these keys.
func writes(at int, keys ...api.Key) api.Commit {
	c := commit(at)
	for _, k := range keys {
		c.Writes = append(c.Writes, has(k, "data"))
	}
	return c
}

var (
	keyA = key("t", "x", "a")
	keyB = key("t", "x", "b")
	keyC = key("t", "y", "a")
	keyD = key("u", "x", "a")
)

// pool is a small set of keys that share tenants, archives and entries' names.
var pool = []api.Key{keyA, keyB, keyC, keyD, key("t", "x", "a/b"), key("", "", ""), key("u", "", "a")}

// alike are keys that would be one another, were their parts laid into one text.
var alike = []api.Key{
	key("", "", ""), key("a", "", ""), key("", "a", ""), key("", "", "a"),
	key("a/b", "c", "d"), key("a", "b/c", "d"), key("a", "b", "c/d"), key("a/b/c/d", "", ""), key("", "", "a/b/c/d"),
	key("a\x00b", "c", "d"), key("a", "b\x00c", "d"), key("A", "b", "c/d"), key("ab", "c", "d"), key("a", "bc", "d"), key("a", "b", "cd"),
	key("\xff", "\xfe", "\x80"), key("\xc3\xa9", "e\u0301", "\ufffd"), key("..", ".", "/"),
}

// times are numbers at which edges are looked for.
var times = []int{math.MinInt, math.MinInt + 1, math.MinInt32, -2, -1, 0, 1, 2, 3, math.MaxInt32, math.MaxInt - 1, math.MaxInt}

func owns(t *testing.T, s *valid.Set, want api.Write) {
	t.Helper()
	if w, ok := s.Own(want.Key); w != want || !ok {
		t.Errorf("Own(%q): %+v, %v; not %+v", want.Key, w, ok, want)
	}
}

func ownsNot(t *testing.T, s *valid.Set, k api.Key) {
	t.Helper()
	if w, ok := s.Own(k); w != (api.Write{}) || ok {
		t.Errorf("Own(%q): %+v, %v", k, w, ok)
	}
}

func staged(t *testing.T, s *valid.Set, want ...api.Write) {
	t.Helper()
	if got := s.Writes(); !slices.Equal(got, want) {
		t.Errorf("Writes: %+v, not %+v", got, want)
	}
}

func clashes(t *testing.T, s *valid.Set, c api.Commit, want bool) {
	t.Helper()
	if got := s.Clash(c); got != want {
		t.Errorf("the snapshot is %d, Clash(%+v): %v", s.At(), c, got)
	}
}

func checks(t *testing.T, s *valid.Set, l []api.Commit, place int, e api.Errno) {
	t.Helper()
	if n, got := s.Check(l); n != place || got != e {
		t.Errorf("the snapshot is %d, Check(%+v): %d, %d; not %d, %d", s.At(), l, n, got, place, e)
	}
}

// set is what both kinds of sets answer.
type set interface {
	Read(k api.Key)
	List(b api.Box)
	Put(k api.Key, data string)
	Delete(k api.Key)
	Own(k api.Key) (api.Write, bool)
	Writes() []api.Write
	At() int
	Clash(c api.Commit) bool
	Check(l []api.Commit) (int, api.Errno)
}

// slow is a set as the words say it: all that was called in rows, all of which are looked at for each answer.
type slow struct {
	at     int
	read   []api.Key
	listed []api.Box
	staged []api.Write
}

func (s *slow) Read(k api.Key) { s.read = append(s.read, k) }

func (s *slow) List(b api.Box) { s.listed = append(s.listed, b) }

func (s *slow) Put(k api.Key, data string) { s.staged = append(s.staged, has(k, data)) }

func (s *slow) Delete(k api.Key) { s.staged = append(s.staged, gone(k)) }

func (s *slow) At() int { return s.at }

func (s *slow) Own(k api.Key) (api.Write, bool) {
	for i := len(s.staged) - 1; i >= 0; i-- {
		if s.staged[i].Key == k {
			return s.staged[i], true
		}
	}
	return api.Write{}, false
}

func (s *slow) Writes() []api.Write {
	var out []api.Write
	for i, w := range s.staged {
		counts := true
		for _, later := range s.staged[i+1:] {
			counts = counts && later.Key != w.Key
		}
		if !counts {
			continue
		}
		at := 0
		for at < len(out) && ahead(out[at].Key, w.Key) {
			at++
		}
		out = slices.Insert(out, at, w)
	}
	return out
}

// ahead tells whether a key stands ahead of another one.
func ahead(a, b api.Key) bool {
	if a.Tenant != b.Tenant {
		return a.Tenant < b.Tenant
	}
	if a.Archive != b.Archive {
		return a.Archive < b.Archive
	}
	return a.Entry < b.Entry
}

func (s *slow) Clash(c api.Commit) bool {
	if c.At <= s.at {
		return false
	}
	for _, w := range c.Writes {
		for _, k := range s.read {
			if k == w.Key {
				return true
			}
		}
		for _, b := range s.listed {
			if b.Tenant == w.Key.Tenant && b.Archive == w.Key.Archive {
				return true
			}
		}
	}
	return false
}

func (s *slow) Check(l []api.Commit) (int, api.Errno) {
	for i, c := range l {
		if c.At < 1 || i > 0 && c.At <= l[i-1].At {
			return -1, api.ErrValidOrder
		}
	}
	for i, c := range l {
		if len(s.staged) > 0 && s.Clash(c) {
			return i, api.OK
		}
	}
	return -1, api.OK
}

// seen is all that a set tells of these keys and commits.
func seen(s set, keys []api.Key, l []api.Commit) string {
	var b strings.Builder
	fmt.Fprintf(&b, "at %d, writes %#v\n", s.At(), s.Writes())
	for _, k := range keys {
		w, ok := s.Own(k)
		fmt.Fprintf(&b, "%q: %#v %v\n", k, w, ok)
		for at := -1; at <= s.At()+2; at++ {
			fmt.Fprintf(&b, "%d %v %v\n", at, s.Clash(writes(at, k)), s.Clash(commit(at, gone(k))))
		}
	}
	for i := range l {
		n, e := s.Check(l[i:])
		fmt.Fprintf(&b, "from %d on: %d %d %v\n", i, n, e, s.Clash(l[i]))
	}
	return b.String()
}

func TestExamples(t *testing.T) {
	x, y, z, q := key("t", "a", "x"), key("t", "a", "y"), key("t", "a", "z"), key("t", "a", "q")
	s := valid.New(3)
	s.Read(x)
	s.List(api.Box{Tenant: "t", Archive: "b"})
	s.Put(y, "1")
	s.Delete(x)
	s.Put(y, "2")
	staged(t, s, gone(x), has(y, "2"))
	owns(t, s, has(y, "2"))
	ownsNot(t, s, z)
	clashes(t, s, writes(4, x), true)
	clashes(t, s, writes(3, x), false)
	clashes(t, s, writes(5, key("t", "b", "new")), true)
	clashes(t, s, writes(5, y), false)
	checks(t, s, []api.Commit{writes(3, x), writes(4, q), writes(6, key("t", "b", "q"))}, 2, api.OK)
	checks(t, s, []api.Commit{writes(4), writes(4)}, -1, api.ErrValidOrder)
	s = valid.New(0)
	s.Read(x)
	checks(t, s, []api.Commit{writes(1, x)}, -1, api.OK)
}

func TestP13_1ANewSet(t *testing.T) {
	for _, at := range times {
		s := valid.New(at)
		if s == nil || s.At() != at {
			t.Fatalf("New(%d): %v", at, s)
		}
		staged(t, s)
		for _, k := range slices.Concat(alike, pool) {
			ownsNot(t, s, k)
			for _, c := range times {
				clashes(t, s, writes(c, k), false)
			}
		}
		checks(t, s, nil, -1, api.OK)
		checks(t, s, []api.Commit{writes(1, keyA), writes(math.MaxInt, pool...)}, -1, api.OK)
	}
}

func TestP13_1TheSnapshotStays(t *testing.T) {
	for _, at := range times {
		s := valid.New(at)
		s.Read(keyA)
		s.List(box(keyC))
		s.Put(keyB, "data")
		s.Delete(keyA)
		s.Clash(writes(math.MaxInt, keyA))
		s.Check([]api.Commit{writes(1, keyA), writes(math.MaxInt, keyC)})
		s.Check([]api.Commit{writes(-1)})
		if s.At() != at {
			t.Errorf("New(%d): At is %d", at, s.At())
		}
	}
}

func TestP13_2OnlyThatKeyIsNotedAsRead(t *testing.T) {
	for _, k := range alike {
		s := valid.New(1)
		for range 3 {
			s.Read(k)
		}
		for _, other := range alike {
			clashes(t, s, writes(2, other), other == k)
		}
		clashes(t, s, writes(2, key(k.Tenant, k.Archive, k.Entry+"more")), false)
		staged(t, s)
		ownsNot(t, s, k)
	}
}

func TestP13_2OnlyThatBoxIsNotedAsListed(t *testing.T) {
	for _, k := range alike {
		s := valid.New(1)
		for range 3 {
			s.List(box(k))
		}
		for _, other := range alike {
			clashes(t, s, writes(2, other), box(other) == box(k))
		}
		for _, entry := range []string{"", "new", "\xff", "a/b", k.Archive, k.Tenant} {
			clashes(t, s, writes(2, key(k.Tenant, k.Archive, entry)), true)
			clashes(t, s, writes(2, key(k.Tenant, k.Archive+"more", entry)), false)
			clashes(t, s, writes(2, key(k.Tenant+"more", k.Archive, entry)), false)
		}
		staged(t, s)
		ownsNot(t, s, k)
	}
}

func TestP13_2AllThatIsNotedCounts(t *testing.T) {
	s := valid.New(7)
	const many = 1000
	for i := range many {
		s.Read(key("t", "x", strconv.Itoa(i)))
		s.List(api.Box{Tenant: "u", Archive: strconv.Itoa(i)})
	}
	for i := range many {
		clashes(t, s, writes(8, key("t", "x", strconv.Itoa(i))), true)
		clashes(t, s, writes(8, key("u", strconv.Itoa(i), "a")), true)
		clashes(t, s, writes(8, key("t", strconv.Itoa(i), "a"), key("u", "x", strconv.Itoa(i))), false)
	}
	clashes(t, s, writes(8, key("t", "x", strconv.Itoa(many)), key("u", strconv.Itoa(many), "a")), false)
}

func TestP13_3WhatIsStagedLastCounts(t *testing.T) {
	kinds := []api.Write{has(keyA, "one"), has(keyA, "two"), has(keyA, ""), gone(keyA)}
	stage := func(s *valid.Set, w api.Write) {
		if w.There {
			s.Put(w.Key, w.Data)
		} else {
			s.Delete(w.Key)
		}
	}
	for i := range 64 {
		s := valid.New(1)
		for _, n := range []int{i % 4, i / 4 % 4, i / 16} {
			stage(s, kinds[n])
			owns(t, s, kinds[n])
			staged(t, s, kinds[n])
		}
		stage(s, has(keyB, "b"))
		owns(t, s, kinds[i/16])
		staged(t, s, kinds[i/16], has(keyB, "b"))
	}
}

func TestP13_3StagingNotesNothing(t *testing.T) {
	s := valid.New(1)
	s.Put(keyA, "data")
	s.Put(keyC, "")
	s.Delete(keyB)
	for _, k := range pool {
		clashes(t, s, writes(2, k), false)
		clashes(t, s, commit(2, gone(k)), false)
	}
	checks(t, s, []api.Commit{writes(1, pool...), writes(2, pool...), writes(9, pool...)}, -1, api.OK)
}

func TestP13_4OwnIsOfThatKeyAlone(t *testing.T) {
	for _, k := range alike {
		s, d := valid.New(1), valid.New(1)
		s.Put(k, "data")
		d.Delete(k)
		for _, other := range alike {
			if other == k {
				owns(t, s, has(k, "data"))
				owns(t, d, gone(k))
			} else {
				ownsNot(t, s, other)
				ownsNot(t, d, other)
			}
		}
	}
}

func TestP13_4WritesRiseByteByByte(t *testing.T) {
	keys := []api.Key{
		key("", "", ""), key("", "", "\x00"), key("", "b", "a"), key("-", "z", "z"), key("0", "10", "10"), key("0", "10", "2"), key("0", "2", "10"),
		key("A", "a", "a"), key("a", "", "z"), key("a", "a", "-"), key("a", "a", "."), key("a", "a", "/"), key("a", "a", "_"), key("a", "a", "a"),
		key("a", "a", "a/b"), key("a", "a", "aa"), key("a", "a", "b"), key("a", "a-", "a"), key("a", "aa", "a"), key("a", "b", "0"), key("a", "b", "a"),
		key("a-", "a", "a"), key("aa", "a", "a"), key("b", "", "z"), key("b", "a", "\x80"), key("b", "a", "\xc3\xa9"), key("b", "a", "\xff"),
		key("b", "\xff", "a"), key("\xff", "", ""),
	}
	r := mixed(4)
	for range 30 {
		s, want := valid.New(1), make([]api.Write, len(keys))
		for range 2 {
			for _, i := range r.Perm(len(keys)) {
				if r.IntN(2) == 0 {
					want[i] = gone(keys[i])
					s.Delete(keys[i])
				} else {
					want[i] = has(keys[i], strconv.Itoa(r.IntN(100)))
					s.Put(keys[i], want[i].Data)
				}
			}
		}
		staged(t, s, want...)
		for _, w := range want {
			owns(t, s, w)
		}
	}
}

func TestP13_5OnlyBehindTheSnapshot(t *testing.T) {
	for _, at := range times {
		s := valid.New(at)
		s.Read(keyA)
		s.List(box(keyC))
		for _, c := range times {
			clashes(t, s, writes(c, keyA), c > at)
			clashes(t, s, writes(c, keyC), c > at)
			clashes(t, s, writes(c, keyB, keyD), false)
		}
		if at > math.MinInt {
			clashes(t, s, writes(at-1, keyA, keyC), false)
		}
		if at < math.MaxInt {
			clashes(t, s, writes(at+1, keyA), true)
		}
	}
}

func TestP13_5AnyOfTheWrites(t *testing.T) {
	read, listed := valid.New(1), valid.New(1)
	read.Read(keyA)
	listed.List(box(keyA))
	others := []api.Key{keyC, keyD, key("t", "X", "a"), key("", "x", "a"), key("t", "", "a")}
	for n := range len(others) + 1 {
		clashes(t, read, writes(2, others[:n]...), false)
		clashes(t, listed, writes(2, others[:n]...), false)
		for place := range n + 1 {
			l := slices.Insert(slices.Clone(others[:n]), place, keyA)
			clashes(t, read, writes(2, l...), true)
			clashes(t, listed, writes(2, l...), true)
			clashes(t, read, writes(1, l...), false)
			l[place] = keyB
			clashes(t, read, writes(2, l...), false)
			clashes(t, listed, writes(2, l...), true)
		}
	}
}

func TestP13_5WrittenOrTakenAway(t *testing.T) {
	s := valid.New(1)
	s.Read(keyA)
	s.List(box(keyC))
	for _, k := range []api.Key{keyA, keyC} {
		for _, w := range []api.Write{has(k, "data"), has(k, ""), gone(k), {Key: k, Data: "left"}} {
			clashes(t, s, commit(2, w), true)
			clashes(t, s, commit(2, has(keyD, ""), w), true)
			clashes(t, s, commit(1, w), false)
			w.Key = keyB
			clashes(t, s, commit(2, w), false)
		}
	}
}

func TestP13_5WhatIsStagedDoesNotMatter(t *testing.T) {
	for i := range 9 {
		s := valid.New(1)
		stage := func(k api.Key, how int) {
			switch how {
			case 1:
				s.Put(k, "data")
			case 2:
				s.Delete(k)
			}
		}
		stage(keyA, i%3)
		stage(keyC, i/3)
		s.Read(keyA)
		s.List(box(keyC))
		stage(keyA, i/3)
		stage(keyC, i%3)
		clashes(t, s, writes(2, keyA), true)
		clashes(t, s, writes(2, keyC), true)
		clashes(t, s, writes(2, keyB, keyD), false)
	}
}

func TestP13_5ACommitWithoutWrites(t *testing.T) {
	s := valid.New(1)
	for _, k := range pool {
		s.Read(k)
		s.List(box(k))
	}
	for _, at := range times {
		clashes(t, s, commit(at), false)
		clashes(t, s, api.Commit{At: at, Writes: []api.Write{}}, false)
	}
	clashes(t, s, api.Commit{}, false)
}

// ats is a list of commits with these numbers that write nothing.
func ats(l ...int) []api.Commit {
	var out []api.Commit
	for _, at := range l {
		out = append(out, commit(at))
	}
	return out
}

// watching is a set that noted keyA as read and keyC's box as listed.
func watching(at int) *valid.Set {
	s := valid.New(at)
	s.Read(keyA)
	s.List(box(keyC))
	return s
}

func TestP13_6NumbersThatDoNotRise(t *testing.T) {
	wrong := [][]int{
		{0}, {-1}, {math.MinInt}, {0, 1}, {-1, 1}, {math.MinInt, math.MaxInt}, {1, 1}, {2, 1}, {1, 0}, {1, -1}, {1, math.MinInt},
		{1, 2, 2}, {1, 3, 2}, {2, 1, 3}, {1, 2, 3, 3}, {1, 2, 3, 0}, {1, 2, 3, 1}, {5, 6, 7, 6, 8}, {math.MaxInt, math.MaxInt},
		{math.MaxInt, 1}, {math.MaxInt - 1, math.MaxInt, math.MinInt}, {0, 0}, {-2, -1}, {-1, 0, 1},
	}
	for _, at := range times {
		none, some := watching(at), watching(at)
		some.Put(keyB, "data")
		for _, l := range wrong {
			checks(t, none, ats(l...), -1, api.ErrValidOrder)
			checks(t, some, ats(l...), -1, api.ErrValidOrder)
			checks(t, valid.New(at), ats(l...), -1, api.ErrValidOrder)
		}
	}
}

func TestP13_6NumbersThatRise(t *testing.T) {
	right := [][]int{{}, {1}, {math.MaxInt}, {1, 2}, {1, math.MaxInt}, {3, 5, 9}, {1, 2, 3, 4, 5, 6}, {math.MaxInt - 1, math.MaxInt}}
	for _, at := range times {
		s := watching(at)
		s.Put(keyB, "data")
		for _, l := range right {
			checks(t, s, ats(l...), -1, api.OK)
		}
		checks(t, s, nil, -1, api.OK)
		checks(t, s, []api.Commit{}, -1, api.OK)
	}
}

// A fault in the order counts wherever it stands: behind a clash, and ahead of the snapshot.
func TestP13_6TheOrderIsLookedAtFirst(t *testing.T) {
	s := watching(5)
	s.Put(keyB, "data")
	clash := writes(6, keyA)
	checks(t, s, []api.Commit{clash}, 0, api.OK)
	checks(t, s, []api.Commit{clash, commit(6)}, -1, api.ErrValidOrder)
	checks(t, s, []api.Commit{clash, commit(7), commit(0)}, -1, api.ErrValidOrder)
	checks(t, s, []api.Commit{clash, writes(8, keyA), writes(7, keyA)}, -1, api.ErrValidOrder)
	checks(t, s, []api.Commit{commit(3), commit(2), clash}, -1, api.ErrValidOrder)
	checks(t, s, []api.Commit{commit(0), clash}, -1, api.ErrValidOrder)
	checks(t, s, []api.Commit{clash, commit(7)}, 0, api.OK)
}

func TestP13_6TheFirstThatClashes(t *testing.T) {
	const many = 8
	for at := range many + 2 {
		s := watching(at)
		s.Delete(keyB)
		for marks := range 1 << many {
			var l []api.Commit
			want := -1
			for i := range many {
				k := keyB
				if marks>>i&1 == 1 {
					k = []api.Key{keyA, keyC}[i%2]
				}
				l = append(l, writes(i+1, keyD, k))
				if k != keyB && i+1 > at && want < 0 {
					want = i
				}
			}
			checks(t, s, l, want, api.OK)
		}
	}
}

func TestP13_6NothingIsStaged(t *testing.T) {
	l := []api.Commit{writes(1, keyA), writes(2, keyC)}
	for _, at := range []int{math.MinInt, -1, 0, 1} {
		s := watching(at)
		checks(t, s, l, -1, api.OK)
		clashes(t, s, l[1], true)
		s.Put(keyD, "") // staged, if only no bytes of another tenant
		checks(t, s, l, max(at, 0), api.OK)
		s = watching(at)
		s.Delete(keyD) // staged, even if it was not there
		checks(t, s, l, max(at, 0), api.OK)
	}
}

func mixedCommit(r *rand.Rand, at int) api.Commit {
	c := commit(at)
	for range r.IntN(4) {
		c.Writes = append(c.Writes, api.Write{Key: pool[r.IntN(len(pool))], There: r.IntN(3) > 0, Data: strconv.Itoa(r.IntN(100))})
	}
	return c
}

// mixedCommits are some commits, by rising numbers but for a few.
func mixedCommits(r *rand.Rand) []api.Commit {
	var l []api.Commit
	at := 0
	for range r.IntN(8) {
		at += 1 + r.IntN(3)
		if r.IntN(30) == 0 {
			at -= 3
		}
		l = append(l, mixedCommit(r, at))
	}
	return l
}

// note adds a note, the same to each set.
func note(r *rand.Rand, sets ...set) string {
	k, read := pool[r.IntN(len(pool))], r.IntN(3) > 0
	for _, s := range sets {
		if read {
			s.Read(k)
		} else {
			s.List(box(k))
		}
	}
	return fmt.Sprintf("note of %q (read: %v)", k, read)
}

// stage stages something, the same in each set.
func stage(r *rand.Rand, sets ...set) string {
	k, data, put := pool[r.IntN(len(pool))], strconv.Itoa(r.IntN(100)), r.IntN(3) > 0
	for _, s := range sets {
		if put {
			s.Put(k, data)
		} else {
			s.Delete(k)
		}
	}
	return fmt.Sprintf("staging of %q (put: %v)", k, put)
}

func TestMixedCallsAsTheWordsSay(t *testing.T) {
	r := mixed(1)
	for range 500 {
		at := r.IntN(8) - 1
		s, m := valid.New(at), &slow{at: at}
		for range r.IntN(15) {
			what := ""
			if r.IntN(2) == 0 {
				what = note(r, s, m)
			} else {
				what = stage(r, s, m)
			}
			l := mixedCommits(r)
			if got, want := seen(s, pool, l), seen(m, pool, l); got != want {
				t.Fatalf("%s, commits %+v:\n%s\nnot\n%s", what, l, got, want)
			}
		}
	}
}

// Rows of calls, of all kinds in all orders, four behind one another. A set can't be copied: each row begins anew.
func TestAllShortRunsAsTheWordsSay(t *testing.T) {
	calls := []func(s set){
		func(s set) { s.Read(keyA) }, func(s set) { s.Read(keyC) }, func(s set) { s.List(box(keyA)) }, func(s set) { s.List(box(keyC)) },
		func(s set) { s.Put(keyA, "1") }, func(s set) { s.Put(keyA, "2") }, func(s set) { s.Put(keyB, "") }, func(s set) { s.Delete(keyA) },
		func(s set) { s.Delete(keyC) }, func(s set) { s.Check(ats(1, 1)) },
	}
	keys := []api.Key{keyA, keyB, keyC}
	l := []api.Commit{writes(1, keyA), writes(2, keyD), commit(3, gone(keyC)), writes(4, keyB), writes(5, keyA, keyC)}
	rows := len(calls) * len(calls) * len(calls) * len(calls)
	for row := range rows {
		s, m := valid.New(2), &slow{at: 2}
		for left := row + rows; left >= len(calls); left /= len(calls) {
			calls[left%len(calls)](s)
			calls[left%len(calls)](m)
		}
		if got, want := seen(s, keys, l), seen(m, keys, l); got != want {
			t.Fatalf("row %d:\n%s\nnot\n%s", row, got, want)
		}
	}
}

func TestP13_7WhatIsNotedMoreOnlyAddsClashes(t *testing.T) {
	r := mixed(7)
	for range 300 {
		s := valid.New(r.IntN(5))
		s.Put(keyA, "data")
		var l []api.Commit
		for at := range 10 {
			l = append(l, mixedCommit(r, at+1))
		}
		first, clashed := len(l), make([]bool, len(l))
		for range 8 {
			what := note(r, s)
			for i, c := range l {
				now := s.Clash(c)
				if clashed[i] && !now {
					t.Fatalf("%s: %+v clashes no more", what, c)
				}
				clashed[i] = now
			}
			n, e := s.Check(l)
			if n < 0 {
				n = len(l)
			}
			if e != api.OK || n > first {
				t.Fatalf("%s: the first clash was at %d, and is at %d (%d)", what, first, n, e)
			}
			first = n
		}
	}
}

func TestP13_7UpToTheSnapshotNothingClashes(t *testing.T) {
	for _, at := range []int{1, 2, 10, math.MaxInt32, math.MaxInt} {
		s := valid.New(at)
		for _, k := range pool {
			s.Read(k)
			s.List(box(k))
			s.Put(k, "data")
		}
		var l []api.Commit
		for n := max(1, at-5); n < at; n++ {
			l = append(l, writes(n, pool...))
		}
		l = append(l, writes(at, pool...))
		for _, c := range l {
			clashes(t, s, c, false)
		}
		checks(t, s, l, -1, api.OK)
		if at < math.MaxInt {
			checks(t, s, append(l, writes(at+1, keyA)), len(l), api.OK)
		}
	}
}

// The texts are long: what is wrong is told by places.
func TestR1AnyNumbersAndTexts(t *testing.T) {
	long := strings.Repeat("x", 1<<20)
	keys := []api.Key{{}, keyA, key(long, long, long), key(long, long, long+"y"), key("\x00", "\xff", "\xed\xa0\x80")}
	for _, at := range times {
		s := valid.New(at)
		for i, k := range keys {
			s.Read(k)
			s.List(box(k))
			s.Put(k, long)
			if w, ok := s.Own(k); w != has(k, long) || !ok {
				t.Errorf("Own of key %d: %v", i, ok)
			}
		}
		if n := len(s.Writes()); n != len(keys) {
			t.Errorf("%d are staged", n)
		}
		for _, now := range times {
			c, want, e := writes(now, keys...), -1, api.OK
			if now < 1 {
				e = api.ErrValidOrder
			} else if now > at {
				want = 0
			}
			if got := s.Clash(c); got != (now > at) {
				t.Errorf("the snapshot is %d, Clash of %d: %v", at, now, got)
			}
			if n, got := s.Check([]api.Commit{c}); n != want || got != e {
				t.Errorf("the snapshot is %d, Check of %d: %d, %d", at, now, n, got)
			}
		}
	}
}

func TestR2CommitsAreNotKeptNorWrittenInto(t *testing.T) {
	s := watching(1)
	s.Put(keyB, "data")
	spare := []api.Commit{writes(2, keyB, keyA), writes(3, keyC), writes(4, keyD), writes(5, keyD)}
	before := fmt.Sprintf("%+v", spare)
	s.Clash(api.Commit{At: 9, Writes: spare[0].Writes[:1]})
	s.Check(spare[:3])
	s.Check(slices.Concat(spare, spare))
	if after := fmt.Sprintf("%+v", spare); after != before {
		t.Errorf("a call wrote into its list: %s, not %s", after, before)
	}
	told := seen(s, pool, nil)
	for i := range spare {
		for j := range spare[i].Writes {
			spare[i].Writes[j] = has(key("q", "q", "q"), "changed")
		}
		spare[i] = commit(-1)
	}
	if after := seen(s, pool, nil); after != told {
		t.Errorf("a list that was handed in is kept:\n%s\nnot\n%s", after, told)
	}
}

func TestR2ListsThatComeOutAreNew(t *testing.T) {
	s := watching(1)
	s.Put(keyA, "a")
	s.Delete(keyB)
	s.Put(keyC, "c")
	want := []api.Write{has(keyA, "a"), gone(keyB), has(keyC, "c")}
	for range 2 {
		l, other := s.Writes(), s.Writes()
		for i := range l {
			l[i] = has(keyD, "changed")
		}
		_ = append(l, has(keyD, "more"))
		if !slices.Equal(other, want) {
			t.Errorf("two answers share memory: %+v", other)
		}
		staged(t, s, want...)
		owns(t, s, want[0])
	}
}

// What was told stays as it was told, whatever comes behind it.
func TestR2AnswersStay(t *testing.T) {
	s := valid.New(1)
	s.Put(keyA, "a")
	s.Put(keyB, "b")
	l := s.Writes()
	w, _ := s.Own(keyA)
	s.Delete(keyA)
	s.Put(keyB, "changed")
	s.Put(key("a", "a", "a"), "new")
	if !slices.Equal(l, []api.Write{has(keyA, "a"), has(keyB, "b")}) || w != has(keyA, "a") {
		t.Errorf("%+v, %+v", l, w)
	}
}

func TestR2SetsKnowNothingOfOneAnother(t *testing.T) {
	a, b := watching(1), valid.New(5)
	a.Put(keyA, "a")
	staged(t, b)
	clashes(t, b, writes(6, keyA, keyC), false)
	b.Read(keyB)
	b.Delete(keyA)
	owns(t, a, has(keyA, "a"))
	owns(t, b, gone(keyA))
	clashes(t, a, writes(6, keyB), false)
	clashes(t, b, writes(6, keyB), true)
	if a.At() != 1 || b.At() != 5 {
		t.Errorf("At: %d, %d", a.At(), b.At())
	}
}

// Asking changes nothing, and the same calls have the same answers.
func TestR2NothingElseCounts(t *testing.T) {
	first := ""
	for i := range 5 {
		r, s := mixed(10), valid.New(2)
		for range 20 {
			note(r, s)
			stage(r, s)
			l := mixedCommits(r)
			for range i {
				seen(s, pool, l)
			}
		}
		told := seen(s, pool, mixedCommits(r))
		if i == 0 {
			first = told
		} else if told != first {
			t.Fatalf("run %d:\n%s\nnot\n%s", i, told, first)
		}
	}
}

func TestR3ANilSet(t *testing.T) {
	var s *valid.Set
	for range 2 {
		for _, k := range pool {
			s.Read(k)
			s.List(box(k))
			s.Put(k, "data")
			ownsNot(t, s, k)
			s.Delete(k)
			ownsNot(t, s, k)
		}
		staged(t, s)
		if s.At() != 0 {
			t.Errorf("At: %d", s.At())
		}
		for _, at := range times {
			clashes(t, s, writes(at, pool...), false)
			checks(t, s, []api.Commit{writes(at, pool...)}, -1, api.ErrNil)
		}
		checks(t, s, nil, -1, api.ErrNil)
		checks(t, s, ats(1, 2), -1, api.ErrNil)
		checks(t, s, ats(2, 1), -1, api.ErrNil)
	}
}
