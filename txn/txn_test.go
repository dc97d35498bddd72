package txn_test

import (
	"cmp"
	"fmt"
	"maps"
	"math"
	"math/rand/v2"
	"reflect"
	"runtime"
	"slices"
	"strconv"
	"strings"
	"testing"

	"haversack/api"
	"haversack/shelf"
	"haversack/txn"
)

// mixed tells numbers that look mixed and are the same in each run.
func mixed(seed uint64) *rand.Rand { return rand.New(rand.NewPCG(seed, 14)) }

func key(tenant, archive, entry string) api.Key {
	return api.Key{Tenant: tenant, Archive: archive, Entry: entry}
}

func has(k api.Key, data string) api.Write { return api.Write{Key: k, There: true, Data: data} }

func gone(k api.Key) api.Write { return api.Write{Key: k} }

func archive(tenant, name string, l ...api.Entry) api.Archive {
	return api.Archive{Tenant: tenant, Name: name, Entries: l}
}

func entry(name, data string) api.Entry { return api.Entry{Name: name, Data: data} }

// some is a small state.
func some() []api.Archive {
	return []api.Archive{
		archive("t", "x", entry("a", "one"), entry("b", "")),
		archive("t", "y", entry("a", "two"), entry("d/e", "four")),
		archive("u", "x", entry("a", "three")),
	}
}

func made(t *testing.T, l []api.Archive, at int) *txn.Manager {
	t.Helper()
	m, e := txn.New(l, at)
	if m == nil || e != api.OK {
		t.Fatalf("New(%d archives, %d): %d", len(l), at, e)
	}
	return m
}

func is(t *testing.T, what string, got, want api.Errno) {
	t.Helper()
	if got != want {
		t.Errorf("%s: %d, not %d", what, got, want)
	}
}

func begin(t *testing.T, m manager, tenant string) int {
	t.Helper()
	n, e := m.Begin(tenant)
	if e != api.OK {
		t.Fatalf("Begin(%q): %d", tenant, e)
	}
	return n
}

func begins(t *testing.T, m manager, tenant string, want int, e api.Errno) {
	t.Helper()
	if n, got := m.Begin(tenant); n != want || got != e {
		t.Errorf("Begin(%q): %d, %d; not %d, %d", tenant, n, got, want, e)
	}
}

func brief(s string) string { return fmt.Sprintf("%d bytes %.40q", len(s), s) }

func reads(t *testing.T, m manager, n int, archive, entry, want string, e api.Errno) {
	t.Helper()
	if data, got := m.Read(n, archive, entry); data != want || got != e {
		t.Errorf("Read(%d, %.30q, %.80q): %s, %d; not %s, %d", n, archive, entry, brief(data), got, brief(want), e)
	}
}

func lists(t *testing.T, m manager, n int, archive string, want ...string) {
	t.Helper()
	if l, e := m.List(n, archive); !slices.Equal(l, want) || e != api.OK {
		t.Errorf("List(%d, %q): %q, %d; not %q", n, archive, l, e, want)
	}
}

func puts(t *testing.T, m manager, n int, archive, entry, data string) {
	t.Helper()
	is(t, fmt.Sprintf("Put(%d, %q, %q, %s)", n, archive, entry, brief(data)), m.Put(n, archive, entry, data), api.OK)
}

func adds(t *testing.T, m manager, n int, archive, entry, data string) {
	t.Helper()
	is(t, fmt.Sprintf("Add(%d, %q, %q, %s)", n, archive, entry, brief(data)), m.Add(n, archive, entry, data), api.OK)
}

func deletes(t *testing.T, m manager, n int, archive, entry string) {
	t.Helper()
	is(t, fmt.Sprintf("Delete(%d, %q, %q)", n, archive, entry), m.Delete(n, archive, entry), api.OK)
}

func checks(t *testing.T, m manager, n int, want api.Commit, e api.Errno) {
	t.Helper()
	c, got := m.Check(n)
	if c.At != want.At || !slices.Equal(c.Writes, want.Writes) || got != e {
		t.Errorf("Check(%d): %.300s, %d; not %.300s, %d", n, fmt.Sprintf("%+v", c), got, fmt.Sprintf("%+v", want), e)
	}
}

func commits(t *testing.T, m manager, n, want int, e api.Errno) {
	t.Helper()
	if at, got := m.Commit(n); at != want || got != e {
		t.Errorf("Commit(%d): %d, %d; not %d, %d", n, at, got, want, e)
	}
}

func opens(t *testing.T, m manager, want ...int) {
	t.Helper()
	if l := m.Open(); !slices.Equal(l, want) {
		t.Errorf("Open: %v, not %v", l, want)
	}
}

func uses(t *testing.T, m manager, tenant string, bytes, entries int) {
	t.Helper()
	if u := m.Use(tenant); u != (api.Use{Bytes: bytes, Entries: entries}) {
		t.Errorf("Use(%q): %+v; not %d bytes and %d entries", tenant, u, bytes, entries)
	}
}

func dumps(t *testing.T, m manager, want ...api.Archive) {
	t.Helper()
	if l := m.Dump(); len(l) != len(want) || len(l) > 0 && !reflect.DeepEqual(l, want) {
		t.Errorf("Dump: %.300s, not %.300s", fmt.Sprintf("%+v", l), fmt.Sprintf("%+v", want))
	}
}

// does is a transaction of its own, that writes these.
func does(t *testing.T, m manager, tenant string, writes ...api.Write) {
	t.Helper()
	n := begin(t, m, tenant)
	for _, w := range writes {
		if w.There {
			puts(t, m, n, w.Key.Archive, w.Key.Entry, w.Data)
		} else {
			deletes(t, m, n, w.Key.Archive, w.Key.Entry)
		}
	}
	commits(t, m, n, m.Now()+1, api.OK)
}

// manager is what both kinds of managers answer.
type manager interface {
	Begin(tenant string) (int, api.Errno)
	Read(txn int, archive, entry string) (string, api.Errno)
	List(txn int, archive string) ([]string, api.Errno)
	Put(txn int, archive, entry, data string) api.Errno
	Add(txn int, archive, entry, data string) api.Errno
	Delete(txn int, archive, entry string) api.Errno
	Check(txn int) (api.Commit, api.Errno)
	Commit(txn int) (int, api.Errno)
	Abort(txn int) api.Errno
	Open() []int
	Owner(txn int) (string, api.Errno)
	Now() int
	Use(tenant string) api.Use
	Dump() []api.Archive
}

// state is what the words say: some entries have data.
type state map[api.Key]string

func stateOf(l []api.Archive) state {
	s := state{}
	for _, a := range l {
		for _, x := range a.Entries {
			s[key(a.Tenant, a.Name, x.Name)] = x.Data
		}
	}
	return s
}

func order(a, b api.Key) int {
	return cmp.Or(cmp.Compare(a.Tenant, b.Tenant), cmp.Compare(a.Archive, b.Archive), cmp.Compare(a.Entry, b.Entry))
}

func (s state) keys() []api.Key { return slices.SortedFunc(maps.Keys(s), order) }

func (s state) list() []api.Archive {
	var l []api.Archive
	for _, k := range s.keys() {
		if len(l) == 0 || l[len(l)-1].Tenant != k.Tenant || l[len(l)-1].Name != k.Archive {
			l = append(l, archive(k.Tenant, k.Archive))
		}
		l[len(l)-1].Entries = append(l[len(l)-1].Entries, entry(k.Entry, s[k]))
	}
	return l
}

// changed is a new state: this one, changed by some writes.
func (s state) changed(writes []api.Write) state {
	out := maps.Clone(s)
	for _, w := range writes {
		if w.There {
			out[w.Key] = w.Data
		} else {
			delete(out, w.Key)
		}
	}
	return out
}

// slow is a manager as the words say it: each transaction has a copy of the state, all commits are kept, and all that
// was noted or staged stands in rows that are looked at for each answer.
type slow struct {
	now, begun int
	state      state
	open       map[int]*slowTxn
	log        []api.Commit
}

type slowTxn struct {
	owner    string
	at       int
	snapshot state
	staged   []api.Write
	read     []api.Key
	listed   []api.Box
}

func newSlow(l []api.Archive, at int) *slow {
	return &slow{now: at, state: stateOf(l), open: map[int]*slowTxn{}}
}

func shortName(s string) bool {
	for _, c := range []byte(s) {
		if !(c >= 'a' && c <= 'z' || c >= '0' && c <= '9' || c == '-') {
			return false
		}
	}
	return len(s) >= 1 && len(s) <= 16
}

func entryName(s string) bool {
	for _, c := range []byte(s) {
		if !(c >= 'a' && c <= 'z' || c >= '0' && c <= '9' || c == '.' || c == '_' || c == '-' || c == '/') {
			return false
		}
	}
	wrapped := "/" + s + "/"
	return len(s) <= 64 && !strings.Contains(wrapped, "//") && !strings.Contains(wrapped, "/./") && !strings.Contains(wrapped, "/../")
}

func (x *slowTxn) own(k api.Key) bool {
	return slices.ContainsFunc(x.staged, func(w api.Write) bool { return w.Key == k })
}

func (x *slowTxn) sees() state { return x.snapshot.changed(x.staged) }

func (s *slow) wrong(n int, archive, entry string) api.Errno {
	if s.open[n] == nil {
		return api.ErrTxnNone
	}
	if !shortName(archive) || !entryName(entry) {
		return api.ErrTxnName
	}
	return api.OK
}

func (s *slow) Begin(tenant string) (int, api.Errno) {
	if !shortName(tenant) {
		return 0, api.ErrTxnName
	}
	if len(s.open) == 256 {
		return 0, api.ErrTxnMany
	}
	s.begun++
	s.open[s.begun] = &slowTxn{owner: tenant, at: s.now, snapshot: maps.Clone(s.state)}
	return s.begun, api.OK
}

func (s *slow) Read(n int, archive, entry string) (string, api.Errno) {
	if e := s.wrong(n, archive, entry); e != api.OK {
		return "", e
	}
	x := s.open[n]
	k := key(x.owner, archive, entry)
	if !x.own(k) {
		x.read = append(x.read, k)
	}
	data, ok := x.sees()[k]
	if !ok {
		return "", api.ErrTxnEntry
	}
	return data, api.OK
}

func (s *slow) List(n int, archive string) ([]string, api.Errno) {
	if e := s.wrong(n, archive, "a"); e != api.OK {
		return nil, e
	}
	x := s.open[n]
	x.listed = append(x.listed, api.Box{Tenant: x.owner, Archive: archive})
	var l []string
	for _, k := range x.sees().keys() {
		if k.Tenant == x.owner && k.Archive == archive {
			l = append(l, k.Entry)
		}
	}
	return l, api.OK
}

func (s *slow) Put(n int, archive, entry, data string) api.Errno {
	if e := s.wrong(n, archive, entry); e != api.OK {
		return e
	}
	if len(data) > 8192 {
		return api.ErrTxnMost
	}
	x := s.open[n]
	x.staged = append(x.staged, has(key(x.owner, archive, entry), data))
	return api.OK
}

func (s *slow) Add(n int, archive, entry, data string) api.Errno {
	if e := s.wrong(n, archive, entry); e != api.OK {
		return e
	}
	ahead, _ := s.Read(n, archive, entry)
	return s.Put(n, archive, entry, ahead+data)
}

func (s *slow) Delete(n int, archive, entry string) api.Errno {
	if e := s.wrong(n, archive, entry); e != api.OK {
		return e
	}
	x := s.open[n]
	x.staged = append(x.staged, gone(key(x.owner, archive, entry)))
	return api.OK
}

func (s *slow) conflicts(x *slowTxn) bool {
	for _, c := range s.log {
		for _, w := range c.Writes {
			if c.At > x.at && (slices.Contains(x.read, w.Key) || slices.Contains(x.listed, api.Box{Tenant: w.Key.Tenant, Archive: w.Key.Archive})) {
				return true
			}
		}
	}
	return false
}

func (s *slow) Check(n int) (api.Commit, api.Errno) {
	x := s.open[n]
	if x == nil {
		return api.Commit{}, api.ErrTxnNone
	}
	if len(x.staged) == 0 {
		return api.Commit{}, api.OK
	}
	if s.conflicts(x) {
		return api.Commit{}, api.ErrTxnConflict
	}
	archives := 0
	for _, a := range s.state.changed(x.staged).list() {
		if a.Tenant == x.owner {
			archives++
		}
		if archives > 16 || len(a.Entries) > 64 {
			return api.Commit{}, api.ErrTxnMost
		}
	}
	c := api.Commit{At: s.now + 1}
	last := map[api.Key]api.Write{}
	for _, w := range x.staged {
		last[w.Key] = w
	}
	for _, k := range slices.SortedFunc(maps.Keys(last), order) {
		c.Writes = append(c.Writes, last[k])
	}
	return c, api.OK
}

func (s *slow) Commit(n int) (int, api.Errno) {
	c, e := s.Check(n)
	if e == api.OK && c.At > 0 {
		s.now = c.At
		s.state = s.state.changed(c.Writes)
		s.log = append(s.log, c)
	}
	delete(s.open, n)
	return c.At, e
}

func (s *slow) Abort(n int) api.Errno {
	if s.open[n] == nil {
		return api.ErrTxnNone
	}
	delete(s.open, n)
	return api.OK
}

func (s *slow) Open() []int { return slices.Sorted(maps.Keys(s.open)) }

func (s *slow) Owner(n int) (string, api.Errno) {
	if s.open[n] == nil {
		return "", api.ErrTxnNone
	}
	return s.open[n].owner, api.OK
}

func (s *slow) Now() int { return s.now }

func (s *slow) Use(tenant string) api.Use {
	var u api.Use
	for k, data := range s.state {
		if k.Tenant == tenant {
			u.Entries++
			u.Bytes += len(data)
		}
	}
	return u
}

func (s *slow) Dump() []api.Archive { return s.state.list() }

// told is an answer as a text, of which a list without elements is the same whether it is nil or not.
func told(parts ...any) string {
	var b strings.Builder
	for _, p := range parts {
		fmt.Fprintf(&b, "%+q ", p)
	}
	return b.String()
}

// seen is all that a manager tells without being changed.
func seen(m manager) string {
	var b strings.Builder
	l := m.Open()
	fmt.Fprintf(&b, "now %d, open %d\n%s\n", m.Now(), l, told(m.Dump()))
	for _, tenant := range []string{"t", "u", "v", "", "T"} {
		fmt.Fprintf(&b, "%q has %+v\n", tenant, m.Use(tenant))
	}
	for _, n := range append(l, 0, -1) {
		c, e := m.Check(n)
		owner, f := m.Owner(n)
		fmt.Fprintf(&b, "%d: %q %d, %d %s %d\n", n, owner, f, c.At, told(c.Writes), e)
	}
	return b.String()
}

func TestExamples(t *testing.T) {
	m := made(t, nil, 0)
	begins(t, m, "t", 1, api.OK)
	begins(t, m, "t", 2, api.OK)
	begins(t, m, "T", 0, api.ErrTxnName)
	puts(t, m, 1, "x", "a", "one")
	reads(t, m, 1, "x", "a", "one", api.OK)
	reads(t, m, 2, "x", "a", "", api.ErrTxnEntry)
	commits(t, m, 1, 1, api.OK)
	reads(t, m, 2, "x", "a", "", api.ErrTxnEntry)
	puts(t, m, 2, "x", "b", "two")
	commits(t, m, 2, 0, api.ErrTxnConflict)
	commits(t, m, 2, 0, api.ErrTxnNone)
	begins(t, m, "t", 3, api.OK)
	adds(t, m, 3, "x", "a", "!")
	lists(t, m, 3, "x", "a")
	checks(t, m, 3, api.Commit{At: 2, Writes: []api.Write{has(key("t", "x", "a"), "one!")}}, api.OK)
	commits(t, m, 3, 2, api.OK)
	begins(t, m, "t", 4, api.OK)
	deletes(t, m, 4, "x", "z")
	commits(t, m, 4, 3, api.OK)
	uses(t, m, "t", 4, 1)
	begins(t, m, "u", 5, api.OK)
	lists(t, m, 5, "x")
	commits(t, m, 5, 0, api.OK)
}

func TestP14_1TheStateThatWasHandedIn(t *testing.T) {
	full := api.Archive{Tenant: "w", Name: "abcdefghijklmnop"}
	for i := range 64 {
		full.Entries = append(full.Entries, entry(fmt.Sprintf("e%02d", i), strings.Repeat("d", 8192)))
	}
	for _, l := range [][]api.Archive{nil, {}, some(), {full}} {
		for _, at := range []int{0, 1, 2, 41, 999999999, 1000000000} {
			m := made(t, l, at)
			if m.Now() != at {
				t.Errorf("New(%d archives, %d): Now is %d", len(l), at, m.Now())
			}
			opens(t, m)
			dumps(t, m, l...)
			for _, tenant := range []string{"t", "u", "v", "w"} {
				if got, want := m.Use(tenant), newSlow(l, at).Use(tenant); got != want {
					t.Errorf("Use(%q): %+v, not %+v", tenant, got, want)
				}
				n := begin(t, m, tenant)
				for k, data := range stateOf(l) {
					if k.Tenant == tenant {
						reads(t, m, n, k.Archive, k.Entry, data, api.OK)
					} else if _, there := stateOf(l)[key(tenant, k.Archive, k.Entry)]; !there {
						reads(t, m, n, k.Archive, k.Entry, "", api.ErrTxnEntry)
					}
				}
				commits(t, m, n, 0, api.OK)
			}
		}
	}
}

func TestP14_1CommitsGoOnBehindTheNumber(t *testing.T) {
	for _, at := range []int{0, 1, 7, 999999999, 1000000000} {
		m := made(t, some(), at)
		n, other := begin(t, m, "t"), begin(t, m, "t")
		if n != 1 || other != 2 {
			t.Errorf("the first transactions are %d and %d", n, other)
		}
		puts(t, m, n, "x", "a", "new")
		reads(t, m, other, "x", "a", "one", api.OK)
		puts(t, m, other, "x", "a", "newer")
		checks(t, m, n, api.Commit{At: at + 1, Writes: []api.Write{has(key("t", "x", "a"), "new")}}, api.OK)
		commits(t, m, n, at+1, api.OK)
		if m.Now() != at+1 {
			t.Errorf("Now is %d behind the first commit behind %d", m.Now(), at)
		}
		reads(t, m, other, "x", "b", "", api.OK)
		commits(t, m, other, 0, api.ErrTxnConflict)
		does(t, m, "t", gone(key("t", "x", "a")))
		if m.Now() != at+2 {
			t.Errorf("Now is %d behind the second commit behind %d", m.Now(), at)
		}
	}
}

func refused(t *testing.T, what string, l []api.Archive, at int) {
	t.Helper()
	if m, e := txn.New(l, at); m != nil || e != api.ErrArg {
		t.Errorf("New of %s at %d: %d", what, at, e)
	}
}

func TestP14_1WhatIsNoState(t *testing.T) {
	for _, at := range []int{math.MinInt, math.MinInt32, -2, -1, 1000000001, math.MaxInt32, math.MaxInt} {
		refused(t, "no archives", nil, at)
		refused(t, "some archives", some(), at)
	}
	var tenants, archives []api.Archive
	for i := range 17 {
		tenants = append(tenants, archive(fmt.Sprintf("t%02d", i), "x", entry("a", "")))
		archives = append(archives, archive("t", fmt.Sprintf("x%02d", i), entry("a", "")))
	}
	var entries []api.Entry
	for i := range 65 {
		entries = append(entries, entry(fmt.Sprintf("e%02d", i), ""))
	}
	for what, l := range map[string][]api.Archive{
		"an archive without entries": {archive("t", "x")},
		"an archive without a name":  {archive("t", "", entry("a", ""))},
		"a tenant without a name":    {archive("", "x", entry("a", ""))},
		"a wrong tenant":             {archive("T", "x", entry("a", ""))},
		"a wrong archive":            {archive("t", "x/y", entry("a", ""))},
		"a wrong entry":              {archive("t", "x", entry("a/", ""))},
		"the same archive twice":     {archive("t", "x", entry("a", "")), archive("t", "x", entry("b", ""))},
		"archives that fall":         {archive("t", "y", entry("a", "")), archive("t", "x", entry("b", ""))},
		"tenants that fall":          {archive("u", "x", entry("a", "")), archive("t", "x", entry("b", ""))},
		"the same entry twice":       {archive("t", "x", entry("a", ""), entry("a", ""))},
		"entries that fall":          {archive("t", "x", entry("b", ""), entry("a", ""))},
		"too many bytes":             {archive("t", "x", entry("a", strings.Repeat("d", 8193)))},
		"too many entries":           {archive("t", "x", entries...)},
		"too many archives":          archives,
		"too many tenants":           tenants[:9],
	} {
		if shelf.Check(l) == api.OK {
			t.Errorf("%s: shelf.Check takes it", what)
		}
		refused(t, what, l, 0)
		refused(t, what, append(some()[:1:1], l...), 5)
		refused(t, what, l, -1)
	}
	dumps(t, made(t, tenants[:8], 0), tenants[:8]...)
	dumps(t, made(t, archives[:16], 0), archives[:16]...)
	dumps(t, made(t, []api.Archive{archive("t", "x", entries[:64]...)}, 0), archive("t", "x", entries[:64]...))
}

func TestP14_2NumbersFromOneOn(t *testing.T) {
	m := made(t, some(), 77)
	for n := 1; n <= 1000; n++ {
		begins(t, m, "", 0, api.ErrTxnName)
		begins(t, m, []string{"t", "u", "nobody"}[n%3], n, api.OK)
		opens(t, m, n)
		if n%2 == 0 {
			commits(t, m, n, 0, api.OK)
		} else {
			is(t, "Abort", m.Abort(n), api.OK)
		}
		opens(t, m)
	}
}

// wrongShorts are no short names.
var wrongShorts = []string{
	"", "T", "a.b", "a_b", "a/b", "a b", "é", "\x00", "\xff", "a\n", strings.Repeat("t", 17), strings.Repeat("t", 1<<16), "t\x00", "TT", "tT", "Tt",
}

var rightShorts = []string{"t", "0", "-", "--", "a-0", strings.Repeat("t", 16), "zz9", "-a", "a-"}

// wrongEntries are no names of entries.
var wrongEntries = []string{
	"", "/", "a/", "/a", "a//b", ".", "..", "a/.", "a/..", "./a", "../a", "a/./b", "a/../b", "A", "aB", "a b", "é", "\x00", "\xff", "a\\b",
	strings.Repeat("e", 65), strings.Repeat("e", 1<<16), "a:b", "a\n",
}

var rightEntries = []string{
	"a", "0", "-", "_", "a.b", "...", ".a", "a.", "..a", "a..", "a/b", "a/b/c", ".../a", "a/.b", "_/_", "-/-", strings.Repeat("e", 64), strings.Repeat("e/", 31) + "ee",
}

func TestP14_2Names(t *testing.T) {
	m := made(t, nil, 0)
	for _, s := range wrongShorts {
		begins(t, m, s, 0, api.ErrTxnName)
		opens(t, m)
	}
	for i, s := range rightShorts {
		begins(t, m, s, i+1, api.OK)
		if owner, e := m.Owner(i + 1); owner != s || e != api.OK {
			t.Errorf("Owner(%d): %q, %d", i+1, owner, e)
		}
	}
}

func TestP14_2AsManyAsMayBeOpen(t *testing.T) {
	m := made(t, some(), 0)
	for n := 1; n <= 256; n++ {
		begins(t, m, []string{"t", "u"}[n%2], n, api.OK)
	}
	before := seen(m)
	for range 3 {
		begins(t, m, "t", 0, api.ErrTxnMany)
		begins(t, m, "new", 0, api.ErrTxnMany)
		begins(t, m, "T", 0, api.ErrTxnName)
	}
	if after := seen(m); after != before {
		t.Error("a Begin that is refused changes something")
	}
	is(t, "Abort", m.Abort(100), api.OK)
	begins(t, m, "t", 257, api.OK)
	begins(t, m, "t", 0, api.ErrTxnMany)
	commits(t, m, 257, 0, api.OK)
	begins(t, m, "t", 258, api.OK)
	begins(t, m, "t", 0, api.ErrTxnMany)
	puts(t, m, 1, "x", "a", "")
	commits(t, m, 1, 1, api.OK)
	begins(t, m, "t", 259, api.OK)
	reads(t, m, 3, "x", "a", "three", api.OK)
	begins(t, m, "t", 0, api.ErrTxnMany)
	if n := len(m.Open()); n != 256 {
		t.Errorf("%d are open", n)
	}
}

// calls are all calls that take a transaction and an entry.
func calls(m manager, n int, archive, entry, data string) map[string]api.Errno {
	_, read := m.Read(n, archive, entry)
	return map[string]api.Errno{
		"Read": read, "Put": m.Put(n, archive, entry, data), "Add": m.Add(n, archive, entry, data), "Delete": m.Delete(n, archive, entry),
	}
}

func allAnswer(t *testing.T, m manager, n int, archive, entry, data string, want api.Errno) {
	t.Helper()
	for call, e := range calls(m, n, archive, entry, data) {
		if e != want {
			t.Errorf("%s(%d, %.30q, %.80q): %d, not %d", call, n, archive, entry, e, want)
		}
	}
}

var big = strings.Repeat("d", 8193)

func TestP14_3And4TransactionsThatAreNotOpen(t *testing.T) {
	m := made(t, some(), 3)
	begin(t, m, "t")
	begin(t, m, "t")
	begin(t, m, "t")
	commits(t, m, 1, 0, api.OK)
	is(t, "Abort", m.Abort(2), api.OK)
	for _, n := range []int{math.MinInt, -1, 0, 1, 2, 4, 5, 1 << 32, math.MaxInt} {
		allAnswer(t, m, n, "x", "a", "", api.ErrTxnNone)
		allAnswer(t, m, n, "X", "a", big, api.ErrTxnNone)
		allAnswer(t, m, n, "x", "", big, api.ErrTxnNone)
		for _, a := range []string{"x", ""} {
			if l, e := m.List(n, a); len(l) != 0 || e != api.ErrTxnNone {
				t.Errorf("List(%d, %q): %q, %d", n, a, l, e)
			}
		}
		checks(t, m, n, api.Commit{}, api.ErrTxnNone)
		commits(t, m, n, 0, api.ErrTxnNone)
		is(t, "Abort", m.Abort(n), api.ErrTxnNone)
		if owner, e := m.Owner(n); owner != "" || e != api.ErrTxnNone {
			t.Errorf("Owner(%d): %q, %d", n, owner, e)
		}
	}
	opens(t, m, 3)
	reads(t, m, 3, "x", "a", "one", api.OK)
}

func TestP14_3And4Names(t *testing.T) {
	m := made(t, some(), 3)
	n, other := begin(t, m, "t"), begin(t, m, "t")
	for _, a := range wrongShorts {
		allAnswer(t, m, n, a, "a", "", api.ErrTxnName)
		allAnswer(t, m, n, a, "a", big, api.ErrTxnName)
		if l, e := m.List(n, a); len(l) != 0 || e != api.ErrTxnName {
			t.Errorf("List(%d, %.30q): %q, %d", n, a, l, e)
		}
	}
	for _, x := range wrongEntries {
		allAnswer(t, m, n, "x", x, "", api.ErrTxnName)
		allAnswer(t, m, n, "x", x, big, api.ErrTxnName)
	}
	checks(t, m, n, api.Commit{}, api.OK)
	puts(t, m, n, "z", "new", "")
	does(t, m, "t", has(key("t", "x", "a"), ""), gone(key("t", "y", "a")))
	commits(t, m, n, 5, api.OK) // nothing was noted
	for _, a := range rightShorts {
		for _, x := range rightEntries {
			puts(t, m, other, a, x, a+"/"+x)
			reads(t, m, other, a, x, a+"/"+x, api.OK)
			adds(t, m, other, a, x, "+")
			deletes(t, m, other, a, x)
		}
		lists(t, m, other, a)
	}
}

func TestP14_3WhatATransactionSees(t *testing.T) {
	m := made(t, some(), 3)
	n, other := begin(t, m, "t"), begin(t, m, "u")
	reads(t, m, n, "x", "a", "one", api.OK)
	reads(t, m, n, "x", "b", "", api.OK)
	reads(t, m, n, "x", "c", "", api.ErrTxnEntry)
	reads(t, m, n, "z", "a", "", api.ErrTxnEntry)
	lists(t, m, n, "x", "a", "b")
	lists(t, m, n, "y", "a", "d/e")
	lists(t, m, n, "z")
	puts(t, m, n, "x", "a", "new")
	puts(t, m, n, "x", "aa", "")
	deletes(t, m, n, "x", "b")
	deletes(t, m, n, "y", "d/e")
	adds(t, m, n, "z", "q", "first")
	reads(t, m, n, "x", "a", "new", api.OK)
	reads(t, m, n, "x", "aa", "", api.OK)
	reads(t, m, n, "x", "b", "", api.ErrTxnEntry)
	reads(t, m, n, "z", "q", "first", api.OK)
	lists(t, m, n, "x", "a", "aa")
	lists(t, m, n, "y", "a")
	lists(t, m, n, "z", "q")
	puts(t, m, n, "x", "b", "again")
	deletes(t, m, n, "x", "a")
	reads(t, m, n, "x", "b", "again", api.OK)
	reads(t, m, n, "x", "a", "", api.ErrTxnEntry)
	lists(t, m, n, "x", "aa", "b")
	reads(t, m, other, "x", "a", "three", api.OK)
	reads(t, m, other, "y", "a", "", api.ErrTxnEntry)
	lists(t, m, other, "x", "a")
	lists(t, m, other, "y")
	lists(t, m, other, "z")
}

// Each of some transactions began behind another commit, and sees the state behind that one, as others come.
func TestP14_3SnapshotsStay(t *testing.T) {
	m := made(t, some(), 0)
	var data []string
	for i := range 20 {
		n := begin(t, m, "t")
		data = append(data, strconv.Itoa(i))
		if n != 2*i+1 {
			t.Fatalf("transaction %d, not %d", n, 2*i+1)
		}
		does(t, m, "t", has(key("t", "x", "a"), data[i]), has(key("t", "q", "n"+data[i]), ""), gone(key("t", "q", "n"+strconv.Itoa(i-3))))
	}
	look := func(i int) {
		t.Helper()
		want, names := "one", []string(nil)
		if i > 0 {
			want = data[i-1]
		}
		for j := max(0, i-3); j < i; j++ {
			names = append(names, "n"+data[j])
		}
		slices.Sort(names)
		reads(t, m, 2*i+1, "x", "a", want, api.OK)
		lists(t, m, 2*i+1, "q", names...)
	}
	for _, i := range mixed(3).Perm(20) {
		look(i)
	}
	for _, i := range mixed(4).Perm(20) { // those that close take nothing from those that stay
		is(t, "Abort", m.Abort(2*i+1), api.OK)
		for _, n := range m.Open() {
			look((n - 1) / 2)
		}
	}
}

func TestP14_3ListsRiseByteByByte(t *testing.T) {
	names := []string{"-", ".a", "0", "0/0", "10", "2", "_", "a", "a-", "a.", "a/b", "a0", "a_", "aa", "b", "z/z"}
	r := mixed(33)
	for range 30 {
		m := made(t, nil, 0)
		n := begin(t, m, "t")
		p := r.Perm(len(names))
		for _, i := range p[:len(p)/2] {
			puts(t, m, n, "x", names[i], "")
			puts(t, m, n, "y", "other", "")
		}
		commits(t, m, n, 1, api.OK)
		n = begin(t, m, "t")
		for _, i := range p[len(p)/3:] {
			puts(t, m, n, "x", names[i], "data")
		}
		lists(t, m, n, "x", names...)
		deletes(t, m, n, "x", names[p[0]])
		deletes(t, m, n, "x", "none")
		lists(t, m, n, "x", slices.Delete(slices.Clone(names), p[0], p[0]+1)...)
		lists(t, m, n, "y", "other")
	}
}

// notes is what a transaction does that stages something in another archive, and what of the state it notes by it.
var notes = []struct {
	what         string
	does         func(m manager, n int)
	read, listed bool // x/a, and all of x
}{
	{"Read", func(m manager, n int) { m.Read(n, "x", "a") }, true, false},
	{"Read twice", func(m manager, n int) { m.Read(n, "x", "a"); m.Read(n, "x", "a") }, true, false},
	{"Read of another entry", func(m manager, n int) { m.Read(n, "x", "q") }, false, false},
	{"Read of another archive", func(m manager, n int) { m.Read(n, "y", "a") }, false, false},
	{"List", func(m manager, n int) { m.List(n, "x") }, false, true},
	{"List of another archive", func(m manager, n int) { m.List(n, "y") }, false, false},
	{"Put", func(m manager, n int) { m.Put(n, "x", "a", "") }, false, false},
	{"Put of too much", func(m manager, n int) { m.Put(n, "x", "a", big) }, false, false},
	{"Delete", func(m manager, n int) { m.Delete(n, "x", "a") }, false, false},
	{"Add", func(m manager, n int) { m.Add(n, "x", "a", "") }, true, false},
	{"Add of too much", func(m manager, n int) { m.Add(n, "x", "a", big) }, true, false},
	{"Put, Read", func(m manager, n int) { m.Put(n, "x", "a", ""); m.Read(n, "x", "a") }, false, false},
	{"Delete, Read", func(m manager, n int) { m.Delete(n, "x", "a"); m.Read(n, "x", "a") }, false, false},
	{"Put, Add", func(m manager, n int) { m.Put(n, "x", "a", ""); m.Add(n, "x", "a", "") }, false, false},
	{"Put, Add of too much", func(m manager, n int) { m.Put(n, "x", "a", ""); m.Add(n, "x", "a", big) }, false, false},
	{"Delete, Add", func(m manager, n int) { m.Delete(n, "x", "a"); m.Add(n, "x", "a", "") }, false, false},
	{"Put, List", func(m manager, n int) { m.Put(n, "x", "a", ""); m.List(n, "x") }, false, true},
	{"Read, Put", func(m manager, n int) { m.Read(n, "x", "a"); m.Put(n, "x", "a", "") }, true, false},
	{"Read, Delete", func(m manager, n int) { m.Read(n, "x", "a"); m.Delete(n, "x", "a") }, true, false},
	{"Put of too much, Read", func(m manager, n int) { m.Put(n, "x", "a", big); m.Read(n, "x", "a") }, true, false},
	{"Put of another entry, Read", func(m manager, n int) { m.Put(n, "x", "q", ""); m.Read(n, "x", "a") }, true, false},
	{"wrong names", func(m manager, n int) { m.Read(n, "x", ""); m.List(n, ""); m.Add(n, "", "a", "") }, false, false},
	{"Check", func(m manager, n int) { m.Check(n) }, false, false},
	{"nothing", func(m manager, n int) {}, false, false},
}

// What is noted is seen by whether the transaction conflicts, be it noted ahead of the commit or behind it, the entry
// be there or not.
func TestP14_3And4WhatIsNoted(t *testing.T) {
	starts := [][]api.Archive{nil, {archive("t", "x", entry("a", "one"))}, {archive("t", "x", entry("b", ""))}}
	for _, c := range notes {
		for i := range 12 {
			m := made(t, starts[i%3], 0)
			n := begin(t, m, "t")
			puts(t, m, n, "mine", "mine", "")
			name, want := "a", c.read || c.listed
			if i/6 == 1 {
				name, want = "c", c.listed
			}
			write := has(key("t", "x", name), "1")
			if i/3%2 == 1 {
				write = gone(key("t", "x", name))
			}
			late := made(t, starts[i%3], 0)
			begin(t, late, "t")
			puts(t, late, n, "mine", "mine", "")
			c.does(m, n)
			does(t, m, "t", write)
			does(t, late, "t", write)
			c.does(late, n)
			for _, x := range []manager{m, late} {
				_, e := x.Check(n)
				if e != api.OK && e != api.ErrTxnConflict || (e == api.ErrTxnConflict) != want {
					t.Errorf("%s, then a commit of %+v (start %d): %d", c.what, write, i%3, e)
				}
			}
		}
	}
}

func TestP14_4Put(t *testing.T) {
	m := made(t, some(), 0)
	n := begin(t, m, "t")
	for _, size := range []int{0, 1, 8191, 8192} {
		puts(t, m, n, "x", "a", big[:size])
		reads(t, m, n, "x", "a", big[:size], api.OK)
	}
	for _, size := range []int{8193, 8194, 100000, 1 << 20} {
		is(t, "Put of too much", m.Put(n, "x", "a", strings.Repeat("e", size)), api.ErrTxnMost)
		is(t, "Put of too much", m.Put(n, "x", "new", strings.Repeat("e", size)), api.ErrTxnMost)
	}
	checks(t, m, n, api.Commit{At: 1, Writes: []api.Write{has(key("t", "x", "a"), big[:8192])}}, api.OK)
	puts(t, m, n, "x", "a", "a\x00\xff\nb")
	reads(t, m, n, "x", "a", "a\x00\xff\nb", api.OK)
	commits(t, m, n, 1, api.OK)
	uses(t, m, "t", 5+3+4, 4)
}

func TestP14_4Add(t *testing.T) {
	start := []api.Archive{archive("t", "x", entry("full", big[:8192]), entry("near", big[:8190]), entry("none", ""))}
	m := made(t, start, 0)
	n := begin(t, m, "t")
	is(t, "Add", m.Add(n, "x", "full", "e"), api.ErrTxnMost)
	is(t, "Add", m.Add(n, "x", "near", "eee"), api.ErrTxnMost)
	is(t, "Add", m.Add(n, "x", "none", big), api.ErrTxnMost)
	is(t, "Add", m.Add(n, "x", "new", big), api.ErrTxnMost)
	is(t, "Add", m.Add(n, "x", "full", strings.Repeat("e", 1<<20)), api.ErrTxnMost)
	checks(t, m, n, api.Commit{}, api.OK) // nothing is staged
	adds(t, m, n, "x", "full", "")
	adds(t, m, n, "x", "near", "e")
	adds(t, m, n, "x", "near", "f")
	is(t, "Add", m.Add(n, "x", "near", "g"), api.ErrTxnMost)
	adds(t, m, n, "x", "none", big[:8192])
	adds(t, m, n, "x", "new", "one")
	adds(t, m, n, "x", "new", "\x00two")
	reads(t, m, n, "x", "full", big[:8192], api.OK)
	reads(t, m, n, "x", "near", big[:8190]+"ef", api.OK)
	reads(t, m, n, "x", "none", big[:8192], api.OK)
	reads(t, m, n, "x", "new", "one\x00two", api.OK)
	adds(t, m, n, "x", "empty", "") // an entry without bytes is one
	lists(t, m, n, "x", "empty", "full", "near", "new", "none")
	deletes(t, m, n, "x", "full")
	adds(t, m, n, "x", "full", "again")
	reads(t, m, n, "x", "full", "again", api.OK)
	puts(t, m, n, "x", "near", "less")
	adds(t, m, n, "x", "near", big[:8188])
	is(t, "Add", m.Add(n, "x", "near", "e"), api.ErrTxnMost)
	commits(t, m, n, 1, api.OK)
	dumps(t, m, archive("t", "x", entry("empty", ""), entry("full", "again"), entry("near", "less"+big[:8188]), entry("new", "one\x00two"), entry("none", big[:8192])))
}

// Add is of what the transaction sees, which is not what is there now.
func TestP14_4AddOfTheSnapshot(t *testing.T) {
	m := made(t, some(), 0)
	n, fresh := begin(t, m, "t"), begin(t, m, "t")
	does(t, m, "t", has(key("t", "x", "a"), big[:8192]), has(key("t", "x", "new"), big[:8192]))
	adds(t, m, n, "x", "a", "!")
	adds(t, m, n, "x", "new", "!")
	reads(t, m, n, "x", "a", "one!", api.OK)
	reads(t, m, n, "x", "new", "!", api.OK)
	commits(t, m, n, 0, api.ErrTxnConflict)
	puts(t, m, fresh, "x", "a", "")
	adds(t, m, fresh, "x", "a", "?")
	commits(t, m, fresh, 2, api.OK)
	begin(t, m, "t")
	reads(t, m, 4, "x", "a", "?", api.OK)
	is(t, "Add", m.Add(4, "x", "new", "!"), api.ErrTxnMost)
}

func TestP14_4Delete(t *testing.T) {
	m := made(t, some(), 0)
	n := begin(t, m, "t")
	deletes(t, m, n, "x", "a")
	deletes(t, m, n, "x", "a")
	deletes(t, m, n, "x", "none")
	deletes(t, m, n, "q", "none")
	reads(t, m, n, "x", "a", "", api.ErrTxnEntry)
	want := []api.Write{gone(key("t", "q", "none")), gone(key("t", "x", "a")), gone(key("t", "x", "none"))}
	checks(t, m, n, api.Commit{At: 1, Writes: want}, api.OK)
	commits(t, m, n, 1, api.OK)
	dumps(t, m, archive("t", "x", entry("b", "")), some()[1], some()[2])
	does(t, m, "t", gone(key("t", "x", "b")), gone(key("t", "y", "a")), gone(key("t", "y", "d/e")))
	dumps(t, m, some()[2])
	does(t, m, "u", gone(key("u", "x", "a")))
	dumps(t, m)
	does(t, m, "u", gone(key("u", "x", "a")))
	if m.Now() != 4 {
		t.Errorf("Now is %d", m.Now())
	}
}

func TestP14_5WhatIsStagedByRisingKeys(t *testing.T) {
	m := made(t, some(), 9)
	n := begin(t, m, "u")
	names := []string{"-", "0", "10", "2", "a", "a-", "aa", "b"}
	var want []api.Write
	for _, a := range names {
		for _, x := range names {
			want = append(want, has(key("u", a, x), a+x))
		}
	}
	for _, i := range mixed(5).Perm(len(want)) {
		puts(t, m, n, want[i].Key.Archive, want[i].Key.Entry, "ahead")
		puts(t, m, n, want[i].Key.Archive, want[i].Key.Entry, want[i].Data)
		if i%3 == 0 {
			want[i] = gone(want[i].Key)
			deletes(t, m, n, want[i].Key.Archive, want[i].Key.Entry)
		}
	}
	for range 3 {
		checks(t, m, n, api.Commit{At: 10, Writes: want}, api.OK)
	}
	does(t, m, "t", has(key("t", "x", "new"), ""))
	checks(t, m, n, api.Commit{At: 11, Writes: want}, api.OK) // another number, since another one came ahead
	commits(t, m, n, 11, api.OK)
}

func TestP14_5NothingIsStaged(t *testing.T) {
	m := made(t, some(), 4)
	n := begin(t, m, "t")
	reads(t, m, n, "x", "a", "one", api.OK)
	lists(t, m, n, "y", "a", "d/e")
	is(t, "Put", m.Put(n, "x", "a", big), api.ErrTxnMost)
	is(t, "Add", m.Add(n, "x", "a", big), api.ErrTxnMost)
	does(t, m, "t", has(key("t", "x", "a"), ""), gone(key("t", "y", "a")))
	checks(t, m, n, api.Commit{}, api.OK)
	commits(t, m, n, 0, api.OK)
	commits(t, m, n, 0, api.ErrTxnNone)
	n = begin(t, m, "nobody")
	checks(t, m, n, api.Commit{}, api.OK)
	commits(t, m, n, 0, api.OK)
	if m.Now() != 5 {
		t.Errorf("Now is %d", m.Now())
	}
	opens(t, m)
}

// What is staged counts as something, even if it changes nothing.
func TestP14_5WritesThatChangeNothing(t *testing.T) {
	m := made(t, some(), 0)
	first, second := begin(t, m, "t"), begin(t, m, "t")
	reads(t, m, second, "x", "a", "one", api.OK)
	reads(t, m, second, "q", "q", "", api.ErrTxnEntry)
	puts(t, m, second, "z", "z", "")
	puts(t, m, first, "x", "a", "one")
	commits(t, m, first, 1, api.OK)
	dumps(t, m, some()...)
	checks(t, m, second, api.Commit{}, api.ErrTxnConflict)
	third := begin(t, m, "t")
	deletes(t, m, third, "q", "q")
	reads(t, m, third, "x", "a", "one", api.OK)
	fourth := begin(t, m, "t")
	reads(t, m, fourth, "q", "q", "", api.ErrTxnEntry)
	adds(t, m, fourth, "x", "a", "")
	commits(t, m, third, 2, api.OK)
	commits(t, m, fourth, 0, api.ErrTxnConflict)
	commits(t, m, second, 0, api.ErrTxnConflict)
	dumps(t, m, some()...)
}

func TestP14_5CheckChangesNothing(t *testing.T) {
	m := made(t, some(), 0)
	n, old, none := begin(t, m, "t"), begin(t, m, "t"), begin(t, m, "t")
	puts(t, m, n, "x", "a", "new")
	reads(t, m, old, "x", "a", "one", api.OK)
	puts(t, m, old, "x", "b", "new")
	does(t, m, "t", gone(key("t", "x", "a")))
	before := seen(m)
	for range 5 {
		m.Check(n)
		m.Check(old)
		m.Check(none)
		m.Check(99)
	}
	if after := seen(m); after != before {
		t.Errorf("%s\nnot\n%s", after, before)
	}
	opens(t, m, n, old, none)
	reads(t, m, n, "x", "a", "new", api.OK)
	reads(t, m, none, "x", "a", "one", api.OK)
}

// sixteen is a tenant's archives, as many as may be, each of one entry.
func sixteen() []api.Archive {
	var l []api.Archive
	for i := range 16 {
		l = append(l, archive("t", fmt.Sprintf("x%02d", i), entry("e", "")))
	}
	return l
}

// sixtyFour is an archive of as many entries as may be.
func sixtyFour(tenant string) api.Archive {
	a := archive(tenant, "x")
	for i := range 64 {
		a.Entries = append(a.Entries, entry(fmt.Sprintf("e%02d", i), ""))
	}
	return a
}

func TestP14_5AsManyArchivesAsMayBe(t *testing.T) {
	for given := range 17 {
		m := made(t, sixteen()[:given], 0)
		n, more := begin(t, m, "t"), begin(t, m, "t")
		for i := given; i < 16; i++ {
			puts(t, m, n, fmt.Sprintf("y%02d", i), "e", "")
		}
		puts(t, m, n, "y15", "f", "") // of one that is there, or is new, but is the 16th at most
		if given == 16 {
			deletes(t, m, n, "y15", "f")
		}
		puts(t, m, more, "other", "e", "")
		if _, e := m.Check(n); e != api.OK {
			t.Errorf("%d, and so many that there are 16: %d", given, e)
		}
		puts(t, m, n, "z", "e", "")
		checks(t, m, n, api.Commit{}, api.ErrTxnMost)
		deletes(t, m, n, "z", "e")
		commits(t, m, n, 1, api.OK)
		commits(t, m, more, 0, api.ErrTxnMost) // though it saw fewer
		opens(t, m)
		if len(m.Dump()) != 16 || m.Now() != 1 {
			t.Errorf("%d archives, Now %d", len(m.Dump()), m.Now())
		}
	}
}

func TestP14_5ArchivesThatComeAndGo(t *testing.T) {
	m := made(t, sixteen(), 0)
	n, other := begin(t, m, "t"), begin(t, m, "u")
	puts(t, m, n, "new", "e", "")
	checks(t, m, n, api.Commit{}, api.ErrTxnMost)
	deletes(t, m, n, "x07", "none")
	deletes(t, m, n, "none", "e")
	checks(t, m, n, api.Commit{}, api.ErrTxnMost)
	deletes(t, m, n, "x07", "e")
	if _, e := m.Check(n); e != api.OK {
		t.Errorf("one goes, one comes: %d", e)
	}
	puts(t, m, n, "x07", "f", "")
	checks(t, m, n, api.Commit{}, api.ErrTxnMost)
	deletes(t, m, n, "x07", "f")
	for i := range 20 { // of another tenant
		puts(t, m, other, fmt.Sprintf("y%02d", i), "e", "")
		if _, e := m.Check(other); (e == api.OK) != (i < 16) || e != api.OK && e != api.ErrTxnMost {
			t.Errorf("%d archives of another tenant: %d", i+1, e)
		}
	}
	commits(t, m, other, 0, api.ErrTxnMost)
	commits(t, m, n, 1, api.OK)
	uses(t, m, "t", 0, 16)
	uses(t, m, "u", 0, 0)
	n = begin(t, m, "t")
	for i := range 16 {
		deletes(t, m, n, fmt.Sprintf("x%02d", i), "e")
		puts(t, m, n, fmt.Sprintf("z%02d", i), "e", "")
	}
	checks(t, m, n, api.Commit{}, api.ErrTxnMost)
	deletes(t, m, n, "new", "e")
	commits(t, m, n, 2, api.OK)
	uses(t, m, "t", 0, 16)
}

func TestP14_5AsManyEntriesAsMayBe(t *testing.T) {
	for given := range 65 {
		m := made(t, nil, 0)
		if given > 0 {
			m = made(t, []api.Archive{archive("t", "x", sixtyFour("t").Entries[:given]...), sixtyFour("u")}, 0)
		}
		n, more := begin(t, m, "t"), begin(t, m, "t")
		for i := range 64 - given {
			puts(t, m, n, "x", fmt.Sprintf("f%02d", i), "")
		}
		puts(t, m, n, "x", "f63", "")
		if given > 0 {
			deletes(t, m, n, "x", "f63")
			puts(t, m, n, "x", "e00", "new bytes")
		}
		puts(t, m, n, "y", "more", "")
		puts(t, m, more, "x", "g", "")
		if _, e := m.Check(n); e != api.OK {
			t.Errorf("%d, and so many that there are 64: %d", given, e)
		}
		puts(t, m, n, "x", "h", "")
		checks(t, m, n, api.Commit{}, api.ErrTxnMost)
		deletes(t, m, n, "x", "none")
		deletes(t, m, n, "y", "more")
		checks(t, m, n, api.Commit{}, api.ErrTxnMost)
		deletes(t, m, n, "x", "h")
		commits(t, m, n, 1, api.OK)
		commits(t, m, more, 0, api.ErrTxnMost)
		opens(t, m)
		if u := m.Use("t"); u.Entries != 64 {
			t.Errorf("%d given: %+v", given, u)
		}
	}
}

// What would be too many is counted by the state as it is now, not by the snapshot.
func TestP14_5WhatIsThereNowCounts(t *testing.T) {
	m := made(t, []api.Archive{sixtyFour("t")}, 0)
	n, late := begin(t, m, "t"), begin(t, m, "t")
	puts(t, m, n, "x", "new", "")
	checks(t, m, n, api.Commit{}, api.ErrTxnMost)
	deletes(t, m, late, "x", "e00")
	puts(t, m, late, "x", "newer", "")
	does(t, m, "t", gone(key("t", "x", "e00")))
	if _, e := m.Check(n); e != api.OK {
		t.Errorf("one went since: %d", e)
	}
	if _, e := m.Check(late); e != api.OK {
		t.Errorf("63 and one that comes: %d", e)
	}
	commits(t, m, n, 2, api.OK)
	commits(t, m, late, 0, api.ErrTxnMost) // what it deletes is gone already
	uses(t, m, "t", 0, 64)
}

func TestP14_5AConflictIsToldAheadOfTooMuch(t *testing.T) {
	m := made(t, []api.Archive{sixtyFour("t")}, 0)
	n := begin(t, m, "t")
	reads(t, m, n, "y", "a", "", api.ErrTxnEntry)
	puts(t, m, n, "x", "new", "")
	checks(t, m, n, api.Commit{}, api.ErrTxnMost)
	does(t, m, "t", has(key("t", "y", "a"), ""))
	checks(t, m, n, api.Commit{}, api.ErrTxnConflict)
	commits(t, m, n, 0, api.ErrTxnConflict)
	opens(t, m)
}

// A transaction that is refused is closed, and leaves nothing.
func TestP14_5WhatIsRefusedIsLost(t *testing.T) {
	m := made(t, []api.Archive{sixtyFour("t")}, 0)
	most, conflict := begin(t, m, "t"), begin(t, m, "t")
	puts(t, m, most, "x", "new", "")
	puts(t, m, most, "y", "a", "")
	adds(t, m, conflict, "x", "e00", "!")
	does(t, m, "t", has(key("t", "x", "e00"), "?"))
	want := m.Dump()
	commits(t, m, most, 0, api.ErrTxnMost)
	opens(t, m, conflict)
	commits(t, m, most, 0, api.ErrTxnNone)
	commits(t, m, conflict, 0, api.ErrTxnConflict)
	opens(t, m)
	allAnswer(t, m, most, "x", "a", "", api.ErrTxnNone)
	allAnswer(t, m, conflict, "x", "a", "", api.ErrTxnNone)
	dumps(t, m, want...)
	if m.Now() != 1 {
		t.Errorf("Now is %d", m.Now())
	}
	n := begin(t, m, "t") // nor does a refused one count as a commit that others conflict with
	reads(t, m, n, "x", "e00", "?", api.OK)
	reads(t, m, n, "y", "a", "", api.ErrTxnEntry)
	puts(t, m, n, "x", "e01", "")
	commits(t, m, n, 2, api.OK)
}

func TestP14_6Abort(t *testing.T) {
	m := made(t, some(), 0)
	n, other := begin(t, m, "t"), begin(t, m, "t")
	reads(t, m, other, "x", "a", "one", api.OK)
	lists(t, m, other, "y", "a", "d/e")
	puts(t, m, other, "z", "z", "")
	puts(t, m, n, "x", "a", "new")
	deletes(t, m, n, "y", "a")
	is(t, "Abort", m.Abort(n), api.OK)
	is(t, "Abort", m.Abort(n), api.ErrTxnNone)
	opens(t, m, other)
	dumps(t, m, some()...)
	commits(t, m, other, 1, api.OK)
	is(t, "Abort", m.Abort(other), api.ErrTxnNone)
	if m.Now() != 1 {
		t.Errorf("Now is %d", m.Now())
	}
}

func TestP14_6OpenAndOwner(t *testing.T) {
	m := made(t, some(), 0)
	owners := map[int]string{}
	r := mixed(6)
	for range 500 {
		if len(owners) < 256 && r.IntN(3) > 0 {
			tenant := []string{"t", "u", "v-0"}[r.IntN(3)]
			owners[begin(t, m, tenant)] = tenant
		} else if l := slices.Sorted(maps.Keys(owners)); len(l) > 0 {
			n := l[r.IntN(len(l))]
			delete(owners, n)
			if r.IntN(2) == 0 {
				is(t, "Abort", m.Abort(n), api.OK)
			} else {
				commits(t, m, n, 0, api.OK)
			}
		}
		opens(t, m, slices.Sorted(maps.Keys(owners))...)
		for n, want := range owners {
			if owner, e := m.Owner(n); owner != want || e != api.OK {
				t.Errorf("Owner(%d): %q, %d; not %q", n, owner, e, want)
			}
		}
	}
}

func TestP14_7UseAndDump(t *testing.T) {
	m := made(t, some(), 5)
	uses(t, m, "t", 10, 4)
	uses(t, m, "u", 5, 1)
	for _, tenant := range append([]string{"v", "x", "tt", "a"}, wrongShorts...) {
		uses(t, m, tenant, 0, 0)
	}
	n := begin(t, m, "t")
	puts(t, m, n, "x", "a", big[:100])
	deletes(t, m, n, "y", "a")
	uses(t, m, "t", 10, 4) // what is staged is not there yet
	dumps(t, m, some()...)
	if m.Now() != 5 {
		t.Errorf("Now is %d", m.Now())
	}
	commits(t, m, n, 6, api.OK)
	uses(t, m, "t", 104, 3)
	uses(t, m, "u", 5, 1)
	dumps(t, m, archive("t", "x", entry("a", big[:100]), entry("b", "")), archive("t", "y", entry("d/e", "four")), some()[2])
	does(t, m, "s", has(key("s", "z", "z"), "s"), has(key("s", "-", "z"), ""), has(key("s", "-", "0"), "!"))
	l := m.Dump()
	if !reflect.DeepEqual(l[:2], []api.Archive{archive("s", "-", entry("0", "!"), entry("z", "")), archive("s", "z", entry("z", "s"))}) {
		t.Errorf("Dump: %+v", l)
	}
	uses(t, m, "s", 2, 3)
	if m.Now() != 7 {
		t.Errorf("Now is %d", m.Now())
	}
}

// Whoever takes the state as a list can go on from it.
func TestP14_7WhatIsDumpedIsAState(t *testing.T) {
	m := made(t, some(), 5)
	r := mixed(77)
	for range 100 {
		n := begin(t, m, []string{"t", "u", "v"}[r.IntN(3)])
		for range r.IntN(40) {
			a, x := "x"+strconv.Itoa(r.IntN(20)), "e"+strconv.Itoa(r.IntN(80))
			if r.IntN(3) == 0 {
				deletes(t, m, n, a, x)
			} else {
				puts(t, m, n, a, x, a+x)
			}
		}
		m.Commit(n)
		if e := shelf.Check(m.Dump()); e != api.OK {
			t.Fatalf("Dump is no state: %d", e)
		}
		again := made(t, m.Dump(), m.Now())
		if seen(again) != seen(m) {
			t.Fatal("a manager made of what another one dumped is not like it")
		}
	}
}

// call is one call on a manager, as a text and as what it answers.
type call struct {
	what string
	does func(m manager) string
}

func onEntry(kind string, n int, archive, entry, data string) call {
	what := fmt.Sprintf("%s(%d, %.20q, %.20q, %s)", kind, n, archive, entry, brief(data))
	switch kind {
	case "Read":
		return call{what, func(m manager) string {
			s, e := m.Read(n, archive, entry)
			return fmt.Sprintf("%q %d", s, e)
		}}
	case "Put":
		return call{what, func(m manager) string { return fmt.Sprint(int(m.Put(n, archive, entry, data))) }}
	case "Add":
		return call{what, func(m manager) string { return fmt.Sprint(int(m.Add(n, archive, entry, data))) }}
	}
	return call{what, func(m manager) string { return fmt.Sprint(int(m.Delete(n, archive, entry))) }}
}

func listing(n int, archive string) call {
	return call{fmt.Sprintf("List(%d, %.20q)", n, archive), func(m manager) string {
		l, e := m.List(n, archive)
		return fmt.Sprintf("%q %d", l, e)
	}}
}

func beginning(tenant string) call {
	return call{fmt.Sprintf("Begin(%.20q)", tenant), func(m manager) string {
		n, e := m.Begin(tenant)
		return fmt.Sprint(n, int(e))
	}}
}

func committing(n int) call {
	return call{fmt.Sprintf("Commit(%d)", n), func(m manager) string {
		at, e := m.Commit(n)
		return fmt.Sprint(at, int(e))
	}}
}

func aborting(n int) call {
	return call{fmt.Sprintf("Abort(%d)", n), func(m manager) string { return fmt.Sprint(int(m.Abort(n))) }}
}

// mixedCall is a call on one of the open transactions, mostly; of names that may be, mostly.
func mixedCall(r *rand.Rand, open []int, last int) call {
	n := r.IntN(last+3) - 1
	if len(open) > 0 && r.IntN(20) > 0 {
		n = open[r.IntN(len(open))]
	}
	a, x := []string{"x", "y"}[r.IntN(2)], []string{"a", "b", "c/d"}[r.IntN(3)]
	if r.IntN(40) == 0 {
		a = wrongShorts[r.IntN(len(wrongShorts))]
	}
	if r.IntN(40) == 0 {
		x = wrongEntries[r.IntN(len(wrongEntries))]
	}
	data := strconv.Itoa(r.IntN(1000))
	if r.IntN(10) == 0 {
		data = big[:8190+r.IntN(4)]
	}
	switch k := r.IntN(20); k {
	case 0, 1, 2:
		return beginning([]string{"t", "t", "t", "u", "v", ""}[r.IntN(6)])
	case 3, 4, 5:
		return committing(n)
	case 6:
		return aborting(n)
	case 7, 8, 9:
		return listing(n, a)
	default:
		return onEntry([]string{"Read", "Read", "Put", "Add", "Delete"}[k%5], n, a, x, data)
	}
}

func TestMixedCallsAsTheWordsSay(t *testing.T) {
	r := mixed(1)
	codes := map[string]int{}
	for range 300 {
		at := r.IntN(4)
		m, s := made(t, some(), at), newSlow(some(), at)
		for range 80 {
			c := mixedCall(r, s.Open(), s.begun)
			got, want := c.does(m), c.does(s)
			if got != want {
				t.Fatalf("%s: %.200s, not %.200s", c.what, got, want)
			}
			if strings.HasPrefix(c.what, "Commit") {
				codes[got[strings.Index(got, " "):]]++
			}
			if got, want := seen(m), seen(s); got != want {
				t.Fatalf("behind %s:\n%.2000s\nnot\n%.2000s", c.what, got, want)
			}
		}
	}
	for _, e := range []api.Errno{api.OK, api.ErrTxnNone, api.ErrTxnConflict} {
		if codes[fmt.Sprint(" ", int(e))] < 20 {
			t.Errorf("Commit has seldom answered %d: %v", e, codes)
		}
	}
}

// The limits: many archives and entries come and go.
func TestMixedCallsNearTheLimits(t *testing.T) {
	r := mixed(2)
	most := 0
	for range 20 {
		m, s := made(t, nil, 0), newSlow(nil, 0)
		wide := r.IntN(2) == 0
		for range 60 {
			if len(s.open) < 3 {
				c := beginning([]string{"t", "t", "u"}[r.IntN(3)])
				c.does(m)
				c.does(s)
			}
			open := s.Open()
			n := open[r.IntN(len(open))]
			for range r.IntN(30) {
				a, x := "x", "e"+strconv.Itoa(r.IntN(75))
				if wide {
					a, x = "x"+strconv.Itoa(r.IntN(20)), "e"+strconv.Itoa(r.IntN(2))
				}
				c := onEntry([]string{"Put", "Put", "Delete"}[r.IntN(3)], n, a, x, "")
				c.does(m)
				c.does(s)
			}
			c := committing(n)
			got, want := c.does(m), c.does(s)
			if got != want || !reflect.DeepEqual(m.Dump(), s.Dump()) && len(s.state) > 0 {
				t.Fatalf("%s: %s, not %s; or another state", c.what, got, want)
			}
			if strings.HasSuffix(got, strconv.Itoa(int(api.ErrTxnMost))) {
				most++
			}
		}
	}
	if most < 20 {
		t.Errorf("Commit has seldom answered ErrTxnMost: %d", most)
	}
}

// Two transactions of all kinds of calls: the second one commits behind the first one, which commits at any place.
func TestAllShortRunsAsTheWordsSay(t *testing.T) {
	kinds := func(n int, data string) []call {
		return []call{
			onEntry("Read", n, "x", "a", ""), onEntry("Put", n, "x", "a", data), onEntry("Add", n, "x", "a", data), onEntry("Delete", n, "x", "a", ""),
			listing(n, "x"), onEntry("Put", n, "x", "c", data), onEntry("Read", n, "x", "c", ""), onEntry("Add", n, "y", "a", data),
		}
	}
	first, second := kinds(1, "1"), kinds(2, "2")
	const many = 8
	const rows = many * many * many * many * many // of two calls, and three
	for row := range 4 * rows {
		m, s := made(t, some()[:1], 0), newSlow(some()[:1], 0)
		l := []call{beginning("t"), beginning("t")}
		for left := row/4 + rows; left >= many; left /= many {
			if len(l) < 4 {
				l = append(l, first[left%many])
			} else {
				l = append(l, second[left%many])
			}
		}
		l = slices.Insert(l, len(l)-row%4, committing(1))
		l = append(l, committing(2))
		for i, c := range l {
			if got, want := c.does(m), c.does(s); got != want {
				t.Fatalf("row %d, call %d, %s: %s, not %s", row, i, c.what, got, want)
			}
		}
		if got, want := m.Dump(), s.Dump(); !reflect.DeepEqual(got, want) && len(want) > 0 {
			t.Fatalf("row %d: %+v, not %+v", row, got, want)
		}
	}
}

// run is what a transaction did: its calls, each on whatever transaction it is given, and their answers.
type run struct {
	tenant  string
	calls   []func(m manager, n int) string
	answers []string
	began   int // how many commits there were
	at      int // its Commit's answer
}

func mixedStep(r *rand.Rand) func(m manager, n int) string {
	a, x := []string{"x", "y"}[r.IntN(2)], []string{"a", "b", "c"}[r.IntN(3)]
	kind, data := r.IntN(6), strconv.Itoa(r.IntN(1000))
	if r.IntN(8) == 0 {
		data = big[:4100]
	}
	return func(m manager, n int) string {
		switch kind {
		case 0, 1:
			s, e := m.Read(n, a, x)
			return fmt.Sprintf("%q %d", s, e)
		case 2:
			l, e := m.List(n, a)
			return fmt.Sprintf("%q %d", l, e)
		case 3:
			return fmt.Sprint(int(m.Put(n, a, x, data)))
		case 4:
			return fmt.Sprint(int(m.Add(n, a, x, data)))
		}
		return fmt.Sprint(int(m.Delete(n, a, x)))
	}
}

// sideBySide runs transactions that overlap, and tells those that committed, and how many conflicted.
func sideBySide(t *testing.T, r *rand.Rand, m manager) (done []*run, conflicts int) {
	t.Helper()
	open := map[int]*run{}
	for range 150 {
		if len(open) < 4 && r.IntN(3) == 0 {
			tenant := []string{"t", "t", "u"}[r.IntN(3)]
			open[begin(t, m, tenant)] = &run{tenant: tenant, began: m.Now()}
		}
		l := m.Open()
		if len(l) == 0 {
			continue
		}
		n := l[r.IntN(len(l))]
		x := open[n]
		if r.IntN(5) > 0 {
			x.calls = append(x.calls, mixedStep(r))
			x.answers = append(x.answers, x.calls[len(x.calls)-1](m, n))
			continue
		}
		at, e := m.Commit(n)
		delete(open, n)
		if e == api.ErrTxnConflict {
			conflicts++
			continue
		}
		if e != api.OK {
			t.Fatalf("Commit(%d): %d", n, e)
		}
		x.at = at
		done = append(done, x)
	}
	return done, conflicts
}

// One behind the other: those that wrote by their numbers, those that did not right behind the commit ahead of them.
func TestP14_8SerialOrder(t *testing.T) {
	r := mixed(8)
	all := 0
	for round := range 200 {
		m, alone := made(t, some(), 0), made(t, some(), 0)
		done, conflicts := sideBySide(t, r, m)
		all += conflicts
		slices.SortStableFunc(done, func(a, b *run) int {
			return cmp.Or(cmp.Compare(place(a), place(b)), cmp.Compare(b.at, a.at))
		})
		for _, x := range done {
			n := begin(t, alone, x.tenant)
			for i, does := range x.calls {
				if got := does(alone, n); got != x.answers[i] {
					t.Fatalf("round %d, the transaction of commit %d, call %d: alone %.100s, side by side %.100s", round, x.at, i, got, x.answers[i])
				}
			}
			commits(t, alone, n, x.at, api.OK)
		}
		if !reflect.DeepEqual(m.Dump(), alone.Dump()) || m.Now() != alone.Now() {
			t.Fatalf("round %d: another state", round)
		}
	}
	if all < 500 {
		t.Errorf("there were few conflicts: %d", all)
	}
}

// place is the number of the commit that a run is, or stands right behind.
func place(x *run) int {
	if x.at > 0 {
		return x.at
	}
	return x.began
}

func TestP14_8AloneNobodyConflicts(t *testing.T) {
	r := mixed(9)
	m := made(t, some(), 0)
	for range 300 {
		idle, n := begin(t, m, "t"), begin(t, m, "t")
		for range 10 {
			mixedStep(r)(m, n)
			mixedStep(r)(m, idle)
		}
		now := m.Now()
		is(t, "Abort", m.Abort(idle), api.OK)
		if at, e := m.Commit(n); e != api.OK || at != 0 && at != now+1 {
			t.Fatalf("Commit(%d): %d, %d", n, at, e)
		}
	}
}

// Others answer the same whether some transactions that never commit do much, or nothing.
func TestP14_8WhatIsNotCommittedChangesNothing(t *testing.T) {
	for round := range 100 {
		quiet, busy := made(t, some(), 0), made(t, some(), 0)
		for _, m := range []manager{quiet, busy} {
			begin(t, m, "t")
			begin(t, m, "u")
			begin(t, m, "t")
		}
		r, noise := mixed(uint64(round)), mixed(1000)
		for range 100 {
			var open []int
			for _, n := range busy.Open() {
				if n > 3 {
					open = append(open, n)
				}
			}
			c := beginning("t")
			if len(open) > 0 {
				c = mixedCall(r, open, -1)
			}
			if got, want := c.does(busy), c.does(quiet); got != want {
				t.Fatalf("round %d, %s: %.200s, not %.200s", round, c.what, got, want)
			}
			mixedStep(noise)(busy, 1+noise.IntN(3))
			if !reflect.DeepEqual(busy.Dump(), quiet.Dump()) || busy.Now() != quiet.Now() {
				t.Fatalf("round %d: another state behind %s", round, c.what)
			}
		}
	}
}

// Versions and commits that nobody can see or conflict with any more are let go.
func TestWhatNobodyNeedsIsNotKept(t *testing.T) {
	held := func() int64 {
		var s runtime.MemStats
		runtime.GC()
		runtime.ReadMemStats(&s)
		return int64(s.HeapAlloc)
	}
	m := made(t, some(), 0)
	before := held()
	for i := range 4000 {
		old := begin(t, m, "t")
		data := strings.Repeat(strconv.Itoa(i%10), 8192)
		does(t, m, "t", has(key("t", "x", "a"), data), has(key("t", "x", "b"), data), gone(key("t", "y", strconv.Itoa(i))))
		if i%2 == 0 {
			is(t, "Abort", m.Abort(old), api.OK)
		} else {
			commits(t, m, old, 0, api.OK)
		}
	}
	if grown := held() - before; grown > 4<<20 {
		t.Errorf("%d bytes more are held", grown)
	}
	dumps(t, m, archive("t", "x", entry("a", strings.Repeat("9", 8192)), entry("b", strings.Repeat("9", 8192))), some()[1], some()[2])
}

func TestR1AnyNumbersAndTexts(t *testing.T) {
	texts := []string{"", "x", "a", "\x00", "\xff\xfe", "é", strings.Repeat("x", 1<<20), "a/b", "..", big[:8192], big}
	m, s := made(t, some(), 1), newSlow(some(), 1)
	begin(t, m, "t")
	begin(t, s, "t")
	for _, n := range []int{math.MinInt, -1, 0, 1, 2, 256, math.MaxInt} {
		for _, a := range texts {
			for _, x := range texts {
				for _, kind := range []string{"Read", "Put", "Add", "Delete"} {
					c := onEntry(kind, n, a, x, texts[(len(a)+len(x))%len(texts)])
					if got, want := c.does(m), c.does(s); got != want {
						t.Fatalf("%s: %.100s, not %.100s", c.what, got, want)
					}
				}
			}
			c := listing(n, a)
			if got, want := c.does(m), c.does(s); got != want {
				t.Fatalf("%s: %.100s, not %.100s", c.what, got, want)
			}
		}
	}
	if got, want := seen(m), seen(s); got != want {
		t.Errorf("%.1000s\nnot\n%.1000s", got, want)
	}
	for _, a := range texts {
		if m.Use(a) != s.Use(a) {
			t.Errorf("Use(%.20q): %+v", a, m.Use(a))
		}
	}
}

func TestR2ListsThatComeInAreNotKeptNorWrittenInto(t *testing.T) {
	spare := append(some(), archive("v", "spare", entry("a", "")))
	spare[0].Entries = append(spare[0].Entries, entry("spare", "spare"))
	l := slices.Clone(spare[:3])
	l[0].Entries = spare[0].Entries[:2]
	before := fmt.Sprintf("%+v", spare)
	m := made(t, l, 0)
	does(t, m, "t", has(key("t", "x", "new"), ""), gone(key("t", "x", "a")), has(key("t", "z", "z"), ""))
	does(t, m, "v", has(key("v", "x", "new"), ""))
	if after := fmt.Sprintf("%+v", spare); after != before {
		t.Errorf("a call wrote into its list: %s, not %s", after, before)
	}
	told := seen(m)
	for i := range spare {
		for j := range spare[i].Entries {
			spare[i].Entries[j] = entry("changed", "changed")
		}
		spare[i] = api.Archive{}
	}
	for i := range l {
		l[i] = api.Archive{}
	}
	if after := seen(m); after != told {
		t.Errorf("a list that was handed in is kept:\n%s\nnot\n%s", after, told)
	}
}

func TestR2ListsThatComeOutAreNew(t *testing.T) {
	m := made(t, some(), 0)
	n, other := begin(t, m, "t"), begin(t, m, "t")
	puts(t, m, n, "x", "c", "new")
	deletes(t, m, n, "x", "a")
	told := seen(m)
	for range 2 {
		c, _ := m.Check(n)
		names, _ := m.List(other, "x")
		open, l := m.Open(), m.Dump()
		for i := range c.Writes {
			c.Writes[i] = has(key("q", "q", "q"), "changed")
		}
		for i := range names {
			names[i] = "changed"
		}
		for i := range open {
			open[i] = -7
		}
		for i := range l {
			for j := range l[i].Entries {
				l[i].Entries[j] = entry("changed", "changed")
			}
			_ = append(l[i].Entries, entry("more", "more"))
			l[i] = api.Archive{}
		}
		_, _, _, _ = append(c.Writes, api.Write{}), append(names, "more"), append(open, 9), append(l, api.Archive{})
		if after := seen(m); after != told {
			t.Errorf("an answer shares memory:\n%s\nnot\n%s", after, told)
		}
		lists(t, m, other, "x", "a", "b")
		lists(t, m, n, "x", "b", "c")
	}
	c, _ := m.Check(n)
	first, _ := m.List(n, "x")
	l := m.Dump()
	commits(t, m, n, 1, api.OK)
	does(t, m, "t", has(key("t", "x", "c"), "newer"), has(key("t", "x", "a"), ""), gone(key("t", "y", "a")))
	if !slices.Equal(c.Writes, []api.Write{gone(key("t", "x", "a")), has(key("t", "x", "c"), "new")}) || !slices.Equal(first, []string{"b", "c"}) || !reflect.DeepEqual(l, some()) {
		t.Errorf("answers changed: %+v, %q, %+v", c, first, l)
	}
	commits(t, m, other, 0, api.OK)
}

// A Commit that was asked for ahead is not the one that counts: what its owner does with it changes nothing.
func TestR2WhatCheckToldIsNotWhatIsDone(t *testing.T) {
	m := made(t, some(), 0)
	n, other := begin(t, m, "t"), begin(t, m, "t")
	reads(t, m, other, "x", "a", "one", api.OK)
	puts(t, m, other, "z", "z", "")
	puts(t, m, n, "x", "a", "new")
	c, _ := m.Check(n)
	c.Writes[0] = has(key("t", "q", "q"), "changed")
	commits(t, m, n, 1, api.OK)
	commits(t, m, other, 0, api.ErrTxnConflict)
	dumps(t, m, archive("t", "x", entry("a", "new"), entry("b", "")), some()[1], some()[2])
}

func TestR2ManagersKnowNothingOfOneAnother(t *testing.T) {
	a, b := made(t, some(), 1), made(t, nil, 5)
	begin(t, a, "t")
	is(t, "Abort", b.Abort(1), api.ErrTxnNone)
	begin(t, b, "t")
	puts(t, a, 1, "x", "a", "mine")
	reads(t, b, 1, "x", "a", "", api.ErrTxnEntry)
	puts(t, b, 1, "x", "b", "")
	commits(t, a, 1, 2, api.OK)
	opens(t, b, 1)
	commits(t, b, 1, 6, api.OK)
	dumps(t, b, archive("t", "x", entry("b", "")))
	if a.Now() != 2 || b.Now() != 6 {
		t.Errorf("Now: %d, %d", a.Now(), b.Now())
	}
}

// Asking changes nothing, and the same calls have the same answers.
func TestR2NothingElseCounts(t *testing.T) {
	first := ""
	for i := range 5 {
		r, m := mixed(10), made(t, some(), 2)
		var b strings.Builder
		for range 300 {
			c := mixedCall(r, m.Open(), 0)
			b.WriteString(c.what + " " + c.does(m) + "\n")
			for range i {
				seen(m)
			}
		}
		b.WriteString(seen(m))
		if i == 0 {
			first = b.String()
		} else if b.String() != first {
			t.Fatalf("run %d tells something else", i)
		}
	}
}

func TestR3ANilManager(t *testing.T) {
	var m *txn.Manager
	for _, s := range []string{"t", "", "T"} {
		begins(t, m, s, 0, api.ErrNil)
		uses(t, m, s, 0, 0)
	}
	for _, n := range []int{-1, 0, 1, math.MaxInt} {
		allAnswer(t, m, n, "x", "a", "", api.ErrNil)
		allAnswer(t, m, n, "", "", big, api.ErrNil)
		for _, a := range []string{"x", ""} {
			if l, e := m.List(n, a); len(l) != 0 || e != api.ErrNil {
				t.Errorf("List: %q, %d", l, e)
			}
		}
		reads(t, m, n, "x", "a", "", api.ErrNil)
		checks(t, m, n, api.Commit{}, api.ErrNil)
		commits(t, m, n, 0, api.ErrNil)
		is(t, "Abort", m.Abort(n), api.ErrNil)
		if owner, e := m.Owner(n); owner != "" || e != api.ErrNil {
			t.Errorf("Owner: %q, %d", owner, e)
		}
	}
	opens(t, m)
	dumps(t, m)
	if m.Now() != 0 {
		t.Errorf("Now: %d", m.Now())
	}
}
