package chain_test

import (
	"fmt"
	"math"
	"math/rand/v2"
	"reflect"
	"slices"
	"strconv"
	"strings"
	"testing"

	"haversack/api"
	"haversack/chain"
)

// mixed tells numbers that look mixed and are the same in each run.
func mixed(seed uint64) *rand.Rand { return rand.New(rand.NewPCG(seed, 12)) }

func key(tenant, archive, entry string) api.Key {
	return api.Key{Tenant: tenant, Archive: archive, Entry: entry}
}

func has(k api.Key, data string) api.Write { return api.Write{Key: k, There: true, Data: data} }

func gone(k api.Key) api.Write { return api.Write{Key: k} }

func commit(at int, w ...api.Write) api.Commit { return api.Commit{At: at, Writes: w} }

func box(k api.Key) api.Box { return api.Box{Tenant: k.Tenant, Archive: k.Archive} }

var (
	keyA = key("t", "x", "a")
	keyB = key("t", "x", "b")
	keyC = key("t", "y", "a")
	keyD = key("u", "x", "a")
)

// stored is a store of these commits.
func stored(t *testing.T, l ...api.Commit) *chain.Store {
	t.Helper()
	s := chain.New()
	for _, c := range l {
		put(t, s, c)
	}
	return s
}

func put(t *testing.T, s *chain.Store, c api.Commit) {
	t.Helper()
	if e := s.Put(c); e != api.OK || s.Now() != c.At {
		t.Fatalf("Put(%+v): %d, now %d", c, e, s.Now())
	}
}

// none is what get is asked for, if there must be no entry.
const none = "(none)"

func get(t *testing.T, s *chain.Store, k api.Key, at int, want string) {
	t.Helper()
	text, there := want, want != none
	if !there {
		text = ""
	}
	if data, ok := s.Get(k, at); data != text || ok != there {
		t.Errorf("Get(%q, %d): %q, %v; not %q", k, at, data, ok, want)
	}
}

func lists(t *testing.T, s *chain.Store, b api.Box, at int, want ...string) {
	t.Helper()
	if got := s.List(b, at); !slices.Equal(got, want) {
		t.Errorf("List(%q, %d): %q, not %q", b, at, got, want)
	}
}

func dumps(t *testing.T, s *chain.Store, at int, want ...api.Archive) {
	t.Helper()
	if got := s.Dump(at); !same(got, want) {
		t.Errorf("Dump(%d): %q, not %q", at, got, want)
	}
}

func same(a, b []api.Archive) bool { return len(a) == 0 && len(b) == 0 || reflect.DeepEqual(a, b) }

func prunes(t *testing.T, s *chain.Store, at, went, left int) {
	t.Helper()
	if n := s.Prune(at); n != went || s.Versions() != left {
		t.Errorf("Prune(%d): %d, %d are left; not %d, %d", at, n, s.Versions(), went, left)
	}
}

func last(t *testing.T, s *chain.Store, k api.Key, want int) {
	t.Helper()
	if at := s.Last(k); at != want {
		t.Errorf("Last(%q): %d, not %d", k, at, want)
	}
}

// slow is a store as the words say it: all versions in a row, all of which are looked at for each answer.
type slow struct {
	now, floor int
	versions   []said
}

type said struct {
	key   api.Key
	at    int
	there bool
	data  string
}

func (s *slow) Put(c api.Commit) api.Errno {
	if c.At <= s.now {
		return api.ErrChainOrder
	}
	s.now = c.At
	for i, w := range c.Writes {
		counts := true
		for _, later := range c.Writes[i+1:] {
			counts = counts && later.Key != w.Key
		}
		if counts && w.There {
			s.versions = append(s.versions, said{w.Key, c.At, true, w.Data})
		} else if counts {
			s.versions = append(s.versions, said{key: w.Key, at: c.At})
		}
	}
	return api.OK
}

// state is the entries that are there at a time, in no order.
func (s *slow) state(at int) map[api.Key]string {
	at = max(at, s.floor)
	newest := map[api.Key]said{}
	for _, v := range s.versions {
		if v.at <= at && v.at > newest[v.key].at {
			newest[v.key] = v
		}
	}
	out := map[api.Key]string{}
	for k, v := range newest {
		if v.there {
			out[k] = v.data
		}
	}
	return out
}

func (s *slow) Get(k api.Key, at int) (string, bool) {
	data, ok := s.state(at)[k]
	return data, ok
}

func (s *slow) List(b api.Box, at int) []string {
	var out []string
	for k := range s.state(at) {
		if k.Tenant == b.Tenant && k.Archive == b.Archive {
			out = append(out, k.Entry)
		}
	}
	slices.Sort(out)
	return out
}

func (s *slow) Last(k api.Key) int {
	at := 0
	for _, v := range s.versions {
		if v.key == k {
			at = max(at, v.at)
		}
	}
	return at
}

func (s *slow) Now() int { return s.now }

func (s *slow) Versions() int { return len(s.versions) }

func (s *slow) Prune(at int) int {
	if at <= s.floor {
		return 0
	}
	s.floor = min(at, s.now)
	var left []said
	for _, v := range s.versions {
		if v.at > s.floor || v.there && s.newestAtFloor(v) {
			left = append(left, v)
		}
	}
	went := len(s.versions) - len(left)
	s.versions = left
	return went
}

func (s *slow) newestAtFloor(v said) bool {
	for _, o := range s.versions {
		if o.key == v.key && o.at > v.at && o.at <= s.floor {
			return false
		}
	}
	return true
}

func (s *slow) Dump(at int) []api.Archive {
	state := s.state(at)
	var keys []api.Key
	for k := range state {
		keys = append(keys, k)
	}
	slices.SortFunc(keys, func(a, b api.Key) int {
		return slices.Compare([]string{a.Tenant, a.Archive, a.Entry}, []string{b.Tenant, b.Archive, b.Entry})
	})
	var out []api.Archive
	for _, k := range keys {
		end := len(out) - 1
		if end < 0 || out[end].Tenant != k.Tenant || out[end].Name != k.Archive {
			out = append(out, api.Archive{Tenant: k.Tenant, Name: k.Archive})
			end++
		}
		out[end].Entries = append(out[end].Entries, api.Entry{Name: k.Entry, Data: state[k]})
	}
	return out
}

// store is what both kinds of stores answer.
type store interface {
	Put(c api.Commit) api.Errno
	Get(k api.Key, at int) (string, bool)
	List(b api.Box, at int) []string
	Last(k api.Key) int
	Now() int
	Prune(at int) int
	Versions() int
	Dump(at int) []api.Archive
}

// seen is all that a store tells of these keys at these times.
func seen(s store, keys []api.Key, times []int) string {
	var b strings.Builder
	fmt.Fprintf(&b, "now %d, versions %d\n", s.Now(), s.Versions())
	for _, k := range keys {
		fmt.Fprintf(&b, "%q: last %d\n", k, s.Last(k))
	}
	for _, at := range times {
		fmt.Fprintf(&b, "at %d:\n%s", at, state(s, keys, at))
	}
	return b.String()
}

// state is what a store tells of its state at a time.
func state(s store, keys []api.Key, at int) string {
	var b strings.Builder
	for _, k := range keys {
		data, ok := s.Get(k, at)
		fmt.Fprintf(&b, "%q: %q %v of %q\n", k, data, ok, s.List(box(k), at))
	}
	fmt.Fprintf(&b, "%q\n", s.Dump(at))
	return b.String()
}

func TestExamples(t *testing.T) {
	s := chain.New()
	put(t, s, commit(3, has(keyA, "one")))
	if e := s.Put(commit(3, has(keyA, "two"))); e != api.ErrChainOrder {
		t.Errorf("Put: %d", e)
	}
	put(t, s, commit(5, gone(keyA)))
	get(t, s, keyA, 2, none)
	get(t, s, keyA, 3, "one")
	get(t, s, keyA, 4, "one")
	get(t, s, keyA, 5, none)
	get(t, s, keyA, 99, none)
	last(t, s, keyA, 5)
	if s.Now() != 5 || s.Versions() != 2 {
		t.Errorf("now %d, versions %d", s.Now(), s.Versions())
	}
	prunes(t, s, 4, 0, 2)
	get(t, s, keyA, 2, "one")
	prunes(t, s, 9, 2, 0)
	last(t, s, keyA, 0)
	prunes(t, s, 9, 0, 0)
}

// times are those at which edges are looked for.
var times = []int{math.MinInt, math.MinInt + 1, -1, 0, 1, 2, math.MaxInt32, math.MaxInt - 1, math.MaxInt}

func TestP12_1ANewStore(t *testing.T) {
	s := chain.New()
	if s == nil || s.Now() != 0 || s.Versions() != 0 {
		t.Fatalf("New: %v", s)
	}
	for _, at := range times {
		get(t, s, keyA, at, none)
		get(t, s, api.Key{}, at, none)
		lists(t, s, box(keyA), at)
		lists(t, s, api.Box{}, at)
		dumps(t, s, at)
	}
	last(t, s, keyA, 0)
	last(t, s, api.Key{}, 0)
}

func TestP12_1NowIsTheLastCommitsTime(t *testing.T) {
	s := chain.New()
	for _, at := range []int{1, 2, 7, 8, 1000, math.MaxInt32, math.MaxInt} {
		put(t, s, commit(at, gone(keyA)))
	}
	s.Prune(math.MaxInt)
	if s.Now() != math.MaxInt {
		t.Errorf("now %d", s.Now())
	}
}

func TestP12_2TimesThatDoNotRise(t *testing.T) {
	for _, now := range []int{0, 1, 2, 100, math.MaxInt - 1, math.MaxInt} {
		s := chain.New()
		if now > 0 {
			put(t, s, commit(now, has(keyA, "one")))
		}
		before := seen(s, []api.Key{keyA, keyB}, times)
		for _, at := range []int{now, now - 1, now / 2, 0, -1, -now, math.MinInt} {
			for _, c := range []api.Commit{commit(at), commit(at, has(keyA, "two"), has(keyB, "three")), commit(at, gone(keyA))} {
				if e := s.Put(c); e != api.ErrChainOrder {
					t.Errorf("Put of %d behind %d: %d", at, now, e)
				}
			}
		}
		if after := seen(s, []api.Key{keyA, keyB}, times); after != before {
			t.Errorf("a refused Put behind %d changed something:\n%s\nnot\n%s", now, after, before)
		}
		if now < math.MaxInt {
			put(t, s, commit(now+1, has(keyA, "two")))
			get(t, s, keyA, now+1, "two")
			if e := s.Put(commit(now + 1)); e != api.ErrChainOrder {
				t.Errorf("Put of %d, again: %d", now+1, e)
			}
		}
	}
}

func TestP12_2WithoutWritesThereIsNoVersion(t *testing.T) {
	s := stored(t, commit(4))
	if s.Versions() != 0 || s.Now() != 4 {
		t.Errorf("versions %d, now %d", s.Versions(), s.Now())
	}
	dumps(t, s, 4)
	put(t, s, commit(5, has(keyA, "one")))
	put(t, s, api.Commit{At: 6, Writes: []api.Write{}})
	if s.Versions() != 1 {
		t.Errorf("versions %d", s.Versions())
	}
	get(t, s, keyA, 6, "one")
	last(t, s, keyA, 5)
}

func TestP12_2SeveralWritesOfOneEntry(t *testing.T) {
	kinds := []api.Write{has(keyA, "one"), has(keyA, "two"), has(keyA, ""), gone(keyA)}
	for _, earlier := range []bool{false, true} {
		for i := range 64 {
			w := []api.Write{kinds[i%4], has(keyB, "b"), kinds[i/4%4], kinds[i/16]}
			s, versions := chain.New(), 2
			before := none
			if earlier {
				put(t, s, commit(1, has(keyA, "zero")))
				versions, before = 3, "zero"
			}
			put(t, s, commit(2, w...))
			want := w[3].Data
			if !w[3].There {
				want = none
			}
			get(t, s, keyA, 1, before)
			get(t, s, keyA, 2, want)
			get(t, s, keyB, 2, "b")
			last(t, s, keyA, 2)
			if s.Versions() != versions {
				t.Errorf("%v: versions %d, not %d", w, s.Versions(), versions)
			}
		}
	}
}

func TestP12_2EachWriteIsAVersion(t *testing.T) {
	s := stored(t,
		commit(1, gone(keyA)), // that was not there
		commit(2, gone(keyA), gone(keyB)),
		commit(3, has(keyA, "one")),
		commit(4, has(keyA, "one")), // the same bytes
		commit(5, has(keyA, "")),
	)
	if s.Versions() != 6 {
		t.Errorf("versions %d", s.Versions())
	}
	get(t, s, keyA, 2, none)
	get(t, s, keyA, 4, "one")
	get(t, s, keyA, 5, "")
	lists(t, s, box(keyA), 5, "a")
	dumps(t, s, 5, api.Archive{Tenant: "t", Name: "x", Entries: []api.Entry{{Name: "a"}}})
}

func TestP12_2DataOfAnEntryThatIsGone(t *testing.T) {
	s := stored(t, commit(1, api.Write{Key: keyA, Data: "left"}), commit(2, has(keyA, "one")), commit(3, api.Write{Key: keyA, Data: "left"}))
	for at, want := range []string{none, none, "one", none, none} {
		get(t, s, keyA, at, want)
	}
	lists(t, s, box(keyA), 3)
	dumps(t, s, 3)
	prunes(t, s, 3, 3, 0)
}

func TestP12_3EachTimeOfAChain(t *testing.T) {
	s := chain.New()
	for n := 1; n <= 40; n++ {
		put(t, s, commit(10*n, has(keyA, strconv.Itoa(n))))
		put(t, s, commit(10*n+5, gone(keyA)))
	}
	for at := -5; at < 500; at++ {
		want := none
		if n := at / 10; n > 0 && n <= 40 && at%10 < 5 {
			want = strconv.Itoa(n)
		}
		get(t, s, keyA, at, want)
		if want == none {
			lists(t, s, box(keyA), at)
		} else {
			lists(t, s, box(keyA), at, "a")
		}
	}
	get(t, s, keyA, math.MaxInt, none)
	get(t, s, keyA, math.MinInt, none)
}

func TestP12_3TheLeastAndTheGreatestTime(t *testing.T) {
	s := stored(t, commit(1, has(keyA, "one")), commit(math.MaxInt, has(keyA, "two"), has(keyA, "three")))
	get(t, s, keyA, math.MinInt, none)
	get(t, s, keyA, 0, none)
	get(t, s, keyA, 1, "one")
	get(t, s, keyA, math.MaxInt-1, "one")
	get(t, s, keyA, math.MaxInt, "three")
	prunes(t, s, math.MaxInt, 1, 1)
	get(t, s, keyA, math.MinInt, "three")
}

func TestP12_3BelowTheFloor(t *testing.T) {
	s := stored(t, commit(2, has(keyA, "one")), commit(4, has(keyA, "two"), has(keyB, "b")), commit(6, gone(keyA), has(keyC, "c")))
	prunes(t, s, 5, 1, 4)
	for _, at := range []int{math.MinInt, -1, 0, 1, 2, 3, 4, 5} {
		get(t, s, keyA, at, "two")
		get(t, s, keyB, at, "b")
		get(t, s, keyC, at, none)
		lists(t, s, box(keyA), at, "a", "b")
		lists(t, s, box(keyC), at)
		dumps(t, s, at, api.Archive{Tenant: "t", Name: "x", Entries: []api.Entry{{Name: "a", Data: "two"}, {Name: "b", Data: "b"}}})
	}
	get(t, s, keyA, 6, none)
	get(t, s, keyC, 6, "c")
}

func TestP12_3KeysThatReadAlike(t *testing.T) {
	keys := []api.Key{
		key("", "", ""), key("a", "", ""), key("", "a", ""), key("", "", "a"),
		key("a/b", "c", "d"), key("a", "b/c", "d"), key("a", "b", "c/d"), key("a/b/c/d", "", ""),
		key("a\x00b", "c", "d"), key("a", "b\x00c", "d"), key("A", "b", "c/d"),
		key("\xff", "\xfe", "\x80"), key("\xc3\xa9", "e\u0301", "\ufffd"), key("..", ".", "/"),
	}
	var c api.Commit
	for i, k := range keys {
		c.Writes = append(c.Writes, has(k, strconv.Itoa(i)))
	}
	c.At = 1
	s, m := stored(t, c), &slow{}
	m.Put(c)
	for i, k := range keys {
		get(t, s, k, 1, strconv.Itoa(i))
		last(t, s, k, 1)
	}
	if s.Versions() != len(keys) {
		t.Errorf("versions %d", s.Versions())
	}
	for i, k := range keys {
		put(t, s, commit(i+2, gone(k)))
		m.Put(commit(i+2, gone(k)))
		if got, want := seen(s, keys, []int{i + 1, i + 2}), seen(m, keys, []int{i + 1, i + 2}); got != want {
			t.Fatalf("%q is gone:\n%s\nnot\n%s", k, got, want)
		}
	}
	dumps(t, s, s.Now())
}

func TestP12_3NamesRiseByteByByte(t *testing.T) {
	names := []string{"", "\x00", "-", ".", "/", "0", "10", "2", "A", "B", "_", "a", "a-", "a/", "a/b", "aa", "ab", "b", "z", "\x80", "\xc3\xa9", "\xff", "\xff\x00"}
	r := mixed(3)
	for range 20 {
		s, w := chain.New(), []api.Write{has(keyC, "elsewhere"), has(keyD, "elsewhere")}
		for _, i := range r.Perm(len(names)) {
			w = append(w, has(key("t", "x", names[i]), "data"))
		}
		put(t, s, commit(1, w...))
		lists(t, s, box(keyA), 1, names...)
		lists(t, s, box(keyA), 0)
		lists(t, s, box(keyC), 1, "a")
		lists(t, s, box(keyD), 1, "a")
		lists(t, s, api.Box{Tenant: "t"}, 1)
		lists(t, s, api.Box{Archive: "x"}, 1)
		lists(t, s, api.Box{Tenant: "x", Archive: "t"}, 1)
	}
}

func TestP12_4LastIsOfVersionsNotOfStates(t *testing.T) {
	s := stored(t, commit(2, has(keyA, "one")), commit(3, gone(keyB)), commit(7, gone(keyA)), commit(9, has(keyC, "")))
	last(t, s, keyA, 7)
	last(t, s, keyB, 3)
	last(t, s, keyC, 9)
	last(t, s, keyD, 0)
	last(t, s, api.Key{}, 0)
	prunes(t, s, 3, 1, 3)
	last(t, s, keyA, 7)
	last(t, s, keyB, 0)
	prunes(t, s, 9, 2, 1)
	last(t, s, keyA, 0)
	last(t, s, keyC, 9)
	put(t, s, commit(10, has(keyA, "two")))
	last(t, s, keyA, 10)
}

func TestP12_5EachFloorOfAChain(t *testing.T) {
	// The time, and how many versions of a have at most that time and go by then: the newest goes too, if it says gone.
	went := []int{0, 0, 0, 1, 1, 3, 3, 3, 4, 4, 6}
	for at := -2; at < 14; at++ {
		s := stored(t, commit(1, has(keyA, "1")), commit(3, has(keyA, "3")), commit(5, gone(keyA)), commit(6, has(keyA, "6")), commit(8, has(keyA, "8")), commit(10, gone(keyA)))
		want := went[min(max(at, 0), 10)]
		prunes(t, s, at, want, 6-want)
		if want == 6 {
			last(t, s, keyA, 0)
		} else {
			last(t, s, keyA, 10)
		}
		for _, again := range []int{at, at - 1, at - 100, 0, -1, math.MinInt} {
			prunes(t, s, again, 0, 6-want)
		}
		if s.Now() != 10 {
			t.Errorf("Prune(%d): now %d", at, s.Now())
		}
	}
}

func TestP12_5AVersionThatSaysGoneGoesThoughThereAreNewerOnes(t *testing.T) {
	s := stored(t, commit(1, has(keyA, "one")), commit(2, gone(keyA)), commit(3, has(keyA, "three")))
	prunes(t, s, 2, 2, 1)
	get(t, s, keyA, 1, none)
	get(t, s, keyA, 2, none)
	get(t, s, keyA, 3, "three")
	last(t, s, keyA, 3)
}

// The floor is never above Now: what is put later is pruned by a later Prune, at the same number too.
func TestP12_5AFloorAboveNow(t *testing.T) {
	for _, at := range []int{100, math.MaxInt} {
		s := chain.New()
		prunes(t, s, at, 0, 0)
		put(t, s, commit(1, has(keyA, "1")))
		put(t, s, commit(2, has(keyA, "2")))
		get(t, s, keyA, 0, none)
		get(t, s, keyA, 1, "1")
		prunes(t, s, at, 1, 1)
		get(t, s, keyA, 0, "2")
		put(t, s, commit(3, has(keyA, "3"), has(keyB, "3")))
		get(t, s, keyA, 2, "2")
		get(t, s, keyB, 2, none)
		prunes(t, s, 2, 0, 3)
		prunes(t, s, at, 1, 2)
		get(t, s, keyA, 2, "3")
		prunes(t, s, at, 0, 2)
		put(t, s, commit(50, gone(keyA)))
		get(t, s, keyA, 49, "3")
		prunes(t, s, 49, 0, 3)
		prunes(t, s, at, 2, 1)
	}
}

func TestP12_5NumbersThatAreNotAboveTheFloor(t *testing.T) {
	s := stored(t, commit(1, has(keyA, "1")), commit(2, has(keyA, "2")), commit(3, has(keyA, "3")))
	for _, at := range []int{0, -1, math.MinInt} {
		prunes(t, s, at, 0, 3)
	}
	get(t, s, keyA, 0, none)
	prunes(t, s, 2, 1, 2)
	for _, at := range []int{2, 1, 0, -1, math.MinInt} {
		prunes(t, s, at, 0, 2)
		get(t, s, keyA, 1, "2")
		get(t, s, keyA, 2, "2")
		get(t, s, keyA, 3, "3")
	}
}

func TestP12_5AllEntriesArePruned(t *testing.T) {
	s := chain.New()
	const entries, rounds = 200, 5
	for n := range rounds {
		var w []api.Write
		for i := range entries {
			k := key("t"+strconv.Itoa(i%3), "x"+strconv.Itoa(i%7), strconv.Itoa(i))
			w = append(w, api.Write{Key: k, There: n < rounds-1 || i%2 == 0, Data: strconv.Itoa(n)})
		}
		put(t, s, commit(n+1, w...))
	}
	prunes(t, s, 1, 0, entries*rounds)
	prunes(t, s, 3, 2*entries, 3*entries)
	prunes(t, s, 5, 2*entries+entries/2, entries/2)
	n := 0
	for _, a := range s.Dump(0) {
		n += len(a.Entries)
	}
	if n != entries/2 {
		t.Errorf("%d entries are there", n)
	}
}

// What is pruned right behind each commit leaves no more than the state, however long that goes on.
func TestP12_5LongRuns(t *testing.T) {
	s := chain.New()
	const commits = 100000
	for n := 1; n <= commits; n++ {
		k := key("t", strconv.Itoa(n), "a")
		s.Put(commit(2*n-1, has(k, "data"), has(keyA, strconv.Itoa(n))))
		s.Put(commit(2*n, gone(k)))
		want := 3
		if n == 1 {
			want = 2
		}
		if went := s.Prune(2 * n); went != want || s.Versions() != 1 {
			t.Fatalf("Prune(%d): %d, %d are left", 2*n, went, s.Versions())
		}
	}
	get(t, s, keyA, 0, strconv.Itoa(commits))
	dumps(t, s, 0, api.Archive{Tenant: "t", Name: "x", Entries: []api.Entry{{Name: "a", Data: strconv.Itoa(commits)}}})
}

func TestP12_6ByRisingNames(t *testing.T) {
	keys := []api.Key{
		key("", "", ""), key("", "b", "a"), key("-", "z", "z"), key("a", "a", "a"), key("a", "a", "b"), key("a", "a-", "a"), key("a", "aa", "a"),
		key("a", "b", "0"), key("a", "b", "a"), key("a-", "a", "a"), key("aa", "a", "a"), key("b", "", "z"), key("b", "a", "-"), key("b", "a", "\xff"),
	}
	want := []api.Archive{
		{Tenant: "", Name: "", Entries: []api.Entry{{Name: "", Data: "0"}}},
		{Tenant: "", Name: "b", Entries: []api.Entry{{Name: "a", Data: "1"}}},
		{Tenant: "-", Name: "z", Entries: []api.Entry{{Name: "z", Data: "2"}}},
		{Tenant: "a", Name: "a", Entries: []api.Entry{{Name: "a", Data: "3"}, {Name: "b", Data: "4"}}},
		{Tenant: "a", Name: "a-", Entries: []api.Entry{{Name: "a", Data: "5"}}},
		{Tenant: "a", Name: "aa", Entries: []api.Entry{{Name: "a", Data: "6"}}},
		{Tenant: "a", Name: "b", Entries: []api.Entry{{Name: "0", Data: "7"}, {Name: "a", Data: "8"}}},
		{Tenant: "a-", Name: "a", Entries: []api.Entry{{Name: "a", Data: "9"}}},
		{Tenant: "aa", Name: "a", Entries: []api.Entry{{Name: "a", Data: "10"}}},
		{Tenant: "b", Name: "", Entries: []api.Entry{{Name: "z", Data: "11"}}},
		{Tenant: "b", Name: "a", Entries: []api.Entry{{Name: "-", Data: "12"}, {Name: "\xff", Data: "13"}}},
	}
	r := mixed(6)
	for range 20 {
		s := chain.New()
		for n, i := range r.Perm(len(keys)) {
			put(t, s, commit(n+1, has(keys[i], strconv.Itoa(i))))
		}
		dumps(t, s, s.Now(), want...)
		dumps(t, s, math.MaxInt, want...)
		dumps(t, s, 0)
	}
}

func TestP12_6ArchivesThatAreNotThere(t *testing.T) {
	s := stored(t, commit(1, gone(keyA)), commit(2, has(keyC, "c")), commit(3, has(keyA, "a"), gone(keyC)), commit(4, gone(keyA), has(keyD, "d")))
	dumps(t, s, 1)
	dumps(t, s, 2, api.Archive{Tenant: "t", Name: "y", Entries: []api.Entry{{Name: "a", Data: "c"}}})
	dumps(t, s, 3, api.Archive{Tenant: "t", Name: "x", Entries: []api.Entry{{Name: "a", Data: "a"}}})
	dumps(t, s, 4, api.Archive{Tenant: "u", Name: "x", Entries: []api.Entry{{Name: "a", Data: "d"}}})
}

// pool is a small set of keys that share tenants, archives and entries' names.
var pool = []api.Key{keyA, keyB, keyC, keyD, key("t", "x", "a/b"), key("", "", ""), key("u", "", "a")}

func mixedCommit(r *rand.Rand, at int) api.Commit {
	c := commit(at)
	for range r.IntN(5) {
		c.Writes = append(c.Writes, api.Write{Key: pool[r.IntN(len(pool))], There: r.IntN(3) > 0, Data: strconv.Itoa(r.IntN(100))})
	}
	return c
}

// upTo tells all times from one below the first commit to two behind this one.
func upTo(now int) []int {
	var l []int
	for at := -1; at <= now+2; at++ {
		l = append(l, at)
	}
	return l
}

func TestMixedCallsAsTheWordsSay(t *testing.T) {
	r := mixed(1)
	for range 300 {
		s, m := chain.New(), &slow{}
		for range r.IntN(40) {
			what := ""
			if r.IntN(4) > 0 {
				c := mixedCommit(r, m.now+r.IntN(4)-r.IntN(2))
				what = fmt.Sprintf("Put(%+v)", c)
				if got, want := s.Put(c), m.Put(c); got != want {
					t.Fatalf("%s: %d, not %d", what, got, want)
				}
			} else {
				at := r.IntN(m.now+4) - 1
				what = fmt.Sprintf("Prune(%d)", at)
				if got, want := s.Prune(at), m.Prune(at); got != want {
					t.Fatalf("%s: %d, not %d", what, got, want)
				}
			}
			at := upTo(m.now)
			if got, want := seen(s, pool, at), seen(m, pool, at); got != want {
				t.Fatalf("%s:\n%s\nnot\n%s", what, got, want)
			}
		}
	}
}

// A call is made on both stores, and must answer the same.
type call func(s store) int

func puts(step int, w ...api.Write) call {
	return func(s store) int { return int(s.Put(commit(s.Now()+step, w...))) }
}

func prunesTo(at int) call { return func(s store) int { return s.Prune(at) } }

func prunesBack(n int) call { return func(s store) int { return s.Prune(s.Now() - n) } }

// Rows of calls, of all kinds in all orders, up to five behind one another. A store can't be copied: each row begins anew.
func TestAllShortRunsAsTheWordsSay(t *testing.T) {
	calls := []call{
		puts(1, has(keyA, "one")), puts(1, gone(keyA)), puts(2, has(keyA, "two"), gone(keyB)), puts(1, has(keyB, "b")), puts(0, gone(keyA)),
		prunesTo(2), prunesBack(0), prunesBack(1), prunesBack(-3),
	}
	if testing.Short() {
		calls = calls[:7]
	}
	keys := []api.Key{keyA, keyB}
	row := make([]int, 5)
	for {
		s, m := chain.New(), &slow{}
		for _, c := range row {
			if got, want := calls[c](s), calls[c](m); got != want {
				t.Fatalf("calls %d: %d, not %d", row, got, want)
			}
		}
		if got, want := seen(s, keys, upTo(m.now)), seen(m, keys, upTo(m.now)); got != want {
			t.Fatalf("calls %d:\n%s\nnot\n%s", row, got, want)
		}
		i := 0
		for ; i < len(row); i++ {
			row[i]++
			if row[i] < len(calls) {
				break
			}
			row[i] = 0
		}
		if i == len(row) {
			return
		}
	}
}

func TestP12_7WhatIsPutLaterChangesNoEarlierState(t *testing.T) {
	r := mixed(7)
	for range 100 {
		s := chain.New()
		for n := 1; n < 40; n += 2 {
			if r.IntN(4) == 0 {
				s.Prune(r.IntN(n))
			}
			var before []string
			for at := range n {
				before = append(before, state(s, pool, at))
			}
			put(t, s, mixedCommit(r, n))
			for at, want := range before {
				if got := state(s, pool, at); got != want {
					t.Fatalf("the commit of %d changed the state at %d:\n%s\nnot\n%s", n, at, got, want)
				}
			}
		}
	}
}

func TestP12_7PruneChangesNoStateFromTheFloorOn(t *testing.T) {
	r := mixed(8)
	for range 200 {
		s := chain.New()
		for n := range 15 {
			put(t, s, mixedCommit(r, n+1))
		}
		for at := r.IntN(5); at < 20; at += 1 + r.IntN(5) {
			floor := min(at, 15)
			before := map[int]string{}
			for _, from := range []int{floor, floor + 1, floor + 2, 14, 15, 16, math.MaxInt} {
				if from >= floor {
					before[from] = state(s, pool, from)
				}
			}
			s.Prune(at)
			for from, want := range before {
				if got := state(s, pool, from); got != want {
					t.Fatalf("Prune(%d) changed the state at %d:\n%s\nnot\n%s", at, from, got, want)
				}
			}
			for _, below := range []int{floor - 1, floor / 2, -1, math.MinInt} {
				if got, want := state(s, pool, below), before[floor]; got != want {
					t.Fatalf("the floor is %d, the state at %d:\n%s\nnot\n%s", floor, below, got, want)
				}
			}
		}
	}
}

func TestP12_7DumpSaysWhatGetAndListSay(t *testing.T) {
	r := mixed(9)
	for range 200 {
		s := chain.New()
		for n := range 10 {
			put(t, s, mixedCommit(r, n+1))
		}
		s.Prune(r.IntN(12) - 1)
		for at := -1; at < 12; at++ {
			entries := map[api.Box][]string{}
			for _, a := range s.Dump(at) {
				b := api.Box{Tenant: a.Tenant, Archive: a.Name}
				for _, x := range a.Entries {
					entries[b] = append(entries[b], x.Name)
					get(t, s, key(a.Tenant, a.Name, x.Name), at, x.Data)
				}
				if len(a.Entries) == 0 {
					t.Errorf("Dump(%d): %q has no entries", at, b)
				}
			}
			for _, k := range pool {
				lists(t, s, box(k), at, entries[box(k)]...)
				if _, ok := s.Get(k, at); ok != slices.Contains(entries[box(k)], k.Entry) {
					t.Errorf("Get(%q, %d): %v, but Dump says %q", k, at, ok, entries[box(k)])
				}
			}
		}
	}
}

func TestR1AnyNumbersAndTexts(t *testing.T) {
	long := strings.Repeat("x", 1<<20)
	keys := []api.Key{{}, keyA, key(long, long, long), key("\x00", "\xff", "\xed\xa0\x80")}
	for _, at := range times {
		s := chain.New()
		c := commit(at)
		for _, k := range keys {
			c.Writes = append(c.Writes, has(k, long), gone(k), has(k, "data"))
		}
		e := s.Put(c)
		if want := at > 0; (e == api.OK) != want {
			t.Errorf("Put of %d: %d", at, e)
		}
		for _, asked := range times {
			for _, k := range keys {
				if data, ok := s.Get(k, asked); ok != (at > 0 && asked >= at) || ok != (data == "data") {
					t.Errorf("Get at %d of a commit of %d: %.20q, %v", asked, at, data, ok)
				}
			}
		}
		for _, floor := range times {
			if n := s.Prune(floor); n != 0 {
				t.Errorf("Prune(%d) behind a commit of %d: %d", floor, at, n)
			}
		}
	}
}

func TestR2CommitsAreNotKeptNorWrittenInto(t *testing.T) {
	spare := []api.Write{has(keyA, "one"), gone(keyB), has(keyA, "two"), has(keyC, "spare")}
	before := slices.Clone(spare)
	s := chain.New()
	put(t, s, api.Commit{At: 1, Writes: spare[:3]})
	s.Put(api.Commit{At: 1, Writes: spare[:2]})
	if !slices.Equal(spare, before) {
		t.Errorf("Put wrote into its list: %v", spare)
	}
	for i := range spare {
		spare[i] = has(keyD, "changed")
	}
	get(t, s, keyA, 1, "two")
	get(t, s, keyC, 1, none)
	get(t, s, keyD, 1, none)
	dumps(t, s, 1, api.Archive{Tenant: "t", Name: "x", Entries: []api.Entry{{Name: "a", Data: "two"}}})
}

func TestR2ListsThatComeOutAreNew(t *testing.T) {
	s := stored(t, commit(1, has(keyA, "a"), has(keyB, "b"), has(keyC, "c"), has(keyD, "d")))
	before := state(s, pool, 1)
	for range 2 {
		names := s.List(box(keyA), 1)
		names[0], names[1] = "changed", "changed"
		_ = append(names, "more")
		l := s.Dump(1)
		for i := range l {
			// Were lists of one answer one memory, this would be seen in the next archive.
			_ = append(l[i].Entries, api.Entry{Name: "more"}, api.Entry{Name: "more"})
		}
		if !same(l, s.Dump(1)) {
			t.Errorf("Dump's lists share memory: %v", l)
		}
		for i := range l {
			for j := range l[i].Entries {
				l[i].Entries[j] = api.Entry{Name: "changed"}
			}
			l[i] = api.Archive{Tenant: "changed"}
		}
		if after := state(s, pool, 1); after != before {
			t.Fatalf("a list that came out reaches back:\n%s\nnot\n%s", after, before)
		}
	}
}

// What was told stays as it was told, whatever comes behind it.
func TestR2AnswersStay(t *testing.T) {
	s := stored(t, commit(1, has(keyA, "a"), has(keyB, "b")), commit(2, has(keyA, "c")))
	data, _ := s.Get(keyA, 1)
	names, l := s.List(box(keyA), 1), s.Dump(1)
	put(t, s, commit(3, gone(keyA), gone(keyB), has(key("t", "x", "0"), "z")))
	s.Prune(3)
	want := []api.Archive{{Tenant: "t", Name: "x", Entries: []api.Entry{{Name: "a", Data: "a"}, {Name: "b", Data: "b"}}}}
	if data != "a" || !slices.Equal(names, []string{"a", "b"}) || !same(l, want) {
		t.Errorf("%q, %q, %v", data, names, l)
	}
}

func TestR2StoresKnowNothingOfOneAnother(t *testing.T) {
	a, b := stored(t, commit(5, has(keyA, "a"))), chain.New()
	if b.Now() != 0 || b.Versions() != 0 {
		t.Errorf("now %d, versions %d", b.Now(), b.Versions())
	}
	put(t, b, commit(1, has(keyA, "b")))
	put(t, b, commit(2, gone(keyA)))
	prunes(t, b, 2, 2, 0)
	get(t, a, keyA, 4, none)
	get(t, a, keyA, 5, "a")
	get(t, b, keyA, 5, none)
	if a.Now() != 5 || a.Versions() != 1 {
		t.Errorf("now %d, versions %d", a.Now(), a.Versions())
	}
}

// Asking changes nothing, and the same calls have the same answers.
func TestR2NothingElseCounts(t *testing.T) {
	first := ""
	for i := range 5 {
		r, s := mixed(10), chain.New()
		for n := range 30 {
			put(t, s, mixedCommit(r, n+1))
			if n%10 == 9 {
				s.Prune(n - 5)
			}
			for range i {
				seen(s, pool, upTo(n))
			}
		}
		told := seen(s, pool, upTo(30))
		if i == 0 {
			first = told
		} else if told != first {
			t.Fatalf("run %d:\n%s\nnot\n%s", i, told, first)
		}
	}
}

func TestR3ANilStore(t *testing.T) {
	var s *chain.Store
	for _, at := range times {
		for _, c := range []api.Commit{commit(at), commit(at, has(keyA, "one"), gone(keyB))} {
			if e := s.Put(c); e != api.ErrNil {
				t.Errorf("Put of %d: %d", at, e)
			}
		}
		get(t, s, keyA, at, none)
		lists(t, s, box(keyA), at)
		dumps(t, s, at)
		prunes(t, s, at, 0, 0)
	}
	last(t, s, keyA, 0)
	if s.Now() != 0 || s.Versions() != 0 {
		t.Errorf("now %d, versions %d", s.Now(), s.Versions())
	}
}
