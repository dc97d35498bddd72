package engine_test

import (
	"cmp"
	"fmt"
	"maps"
	"math/rand/v2"
	"slices"
	"strings"

	"haversack/api"
	"haversack/zip"
)

// mixed tells numbers that look mixed and are the same in each run.
func mixed(seed uint64) *rand.Rand { return rand.New(rand.NewPCG(seed, 21)) }

func pick[T any](x *rand.Rand, l ...T) T { return l[x.IntN(len(l))] }

func key(tenant, archive, entry string) api.Key {
	return api.Key{Tenant: tenant, Archive: archive, Entry: entry}
}

func has(k api.Key, data string) api.Write { return api.Write{Key: k, There: true, Data: data} }

func gone(k api.Key) api.Write { return api.Write{Key: k} }

func archive(tenant, name string, l ...api.Entry) api.Archive {
	return api.Archive{Tenant: tenant, Name: name, Entries: l}
}

func entry(name, data string) api.Entry { return api.Entry{Name: name, Data: data} }

// machine is what an engine and its model answer.
type machine interface {
	Begin(tenant string) (int, api.Errno)
	Read(txn int, archive, entry string) (string, api.Errno)
	List(txn int, archive string) ([]string, api.Errno)
	Put(txn int, archive, entry, data string) api.Errno
	Add(txn int, archive, entry, data string) api.Errno
	Delete(txn int, archive, entry string) api.Errno
	Abort(txn int) api.Errno
	Commit(txn int) (int, api.Errno)
	Flush() api.Errno
	Safe() int
	Now() int
	Compact() api.Errno
	Export(txn int, archive string) (string, api.Errno)
	Import(txn int, archive, data string) api.Errno
	Use(tenant string) (api.Use, api.Errno)
	Dump() []api.Archive
	Txns() []int
}

// state is what the words say: some entries have data.
type state map[api.Key]string

func order(a, b api.Key) int {
	return cmp.Or(cmp.Compare(a.Tenant, b.Tenant), cmp.Compare(a.Archive, b.Archive), cmp.Compare(a.Entry, b.Entry))
}

func (s state) list() []api.Archive {
	var l []api.Archive
	for _, k := range slices.SortedFunc(maps.Keys(s), order) {
		if len(l) == 0 || l[len(l)-1].Tenant != k.Tenant || l[len(l)-1].Name != k.Archive {
			l = append(l, archive(k.Tenant, k.Archive))
		}
		l[len(l)-1].Entries = append(l[len(l)-1].Entries, entry(k.Entry, s[k]))
	}
	return l
}

// changed is a new state: this one, changed by some writes.
func (s state) changed(writes []api.Write) state {
	out := maps.Clone(s)
	for _, w := range writes {
		if w.There {
			out[w.Key] = w.Data
		} else {
			delete(out, w.Key)
		}
	}
	return out
}

func (s state) use(tenant string) api.Use {
	var u api.Use
	for k, data := range s {
		if k.Tenant == tenant {
			u.Entries++
			u.Bytes += len(data)
		}
	}
	return u
}

// slow is an engine as the words say it, whose disk never fails: each transaction has a copy of the state, all commits
// are kept, and all that was noted or staged stands in rows that are looked at for each answer.
type slow struct {
	tenants          []api.Tenant
	now, safe, begun int
	state            state
	open             map[int]*slowTxn
	log              []api.Commit
}

type slowTxn struct {
	owner    string
	at       int
	snapshot state
	staged   []api.Write
	read     []api.Key
	listed   []api.Box
}

func newSlow(l []api.Tenant) *slow {
	return &slow{tenants: l, state: state{}, open: map[int]*slowTxn{}}
}

// reopened is the engine that is opened behind this one.
func (s *slow) reopened(l []api.Tenant) *slow {
	out := newSlow(l)
	out.state, out.now, out.safe = s.state, s.now, s.now
	return out
}

func (s *slow) tenant(name string) *api.Tenant {
	i := slices.IndexFunc(s.tenants, func(x api.Tenant) bool { return x.Name == name })
	if i < 0 {
		return nil
	}
	return &s.tenants[i]
}

func shortName(s string) bool {
	for _, c := range []byte(s) {
		if !(c >= 'a' && c <= 'z' || c >= '0' && c <= '9' || c == '-') {
			return false
		}
	}
	return len(s) >= 1 && len(s) <= 16
}

func entryName(s string) bool {
	for _, c := range []byte(s) {
		if !(c >= 'a' && c <= 'z' || c >= '0' && c <= '9' || c == '.' || c == '_' || c == '-' || c == '/') {
			return false
		}
	}
	wrapped := "/" + s + "/"
	return len(s) <= 64 && !strings.Contains(wrapped, "//") && !strings.Contains(wrapped, "/./") && !strings.Contains(wrapped, "/../")
}

func (x *slowTxn) own(k api.Key) bool {
	return slices.ContainsFunc(x.staged, func(w api.Write) bool { return w.Key == k })
}

func (x *slowTxn) sees() state { return x.snapshot.changed(x.staged) }

func (s *slow) wrong(n int, archive, entry string) api.Errno {
	if s.open[n] == nil {
		return api.ErrTxnNone
	}
	if !shortName(archive) || !entryName(entry) {
		return api.ErrTxnName
	}
	return api.OK
}

func (s *slow) Begin(tenant string) (int, api.Errno) {
	if s.tenant(tenant) == nil {
		return 0, api.ErrQuotaTenant
	}
	if len(s.open) == 256 {
		return 0, api.ErrTxnMany
	}
	s.begun++
	s.open[s.begun] = &slowTxn{owner: tenant, at: s.now, snapshot: maps.Clone(s.state)}
	return s.begun, api.OK
}

func (s *slow) Read(n int, archive, entry string) (string, api.Errno) {
	if e := s.wrong(n, archive, entry); e != api.OK {
		return "", e
	}
	x := s.open[n]
	k := key(x.owner, archive, entry)
	if !x.own(k) {
		x.read = append(x.read, k)
	}
	data, ok := x.sees()[k]
	if !ok {
		return "", api.ErrTxnEntry
	}
	return data, api.OK
}

func (s *slow) List(n int, archive string) ([]string, api.Errno) {
	if e := s.wrong(n, archive, "a"); e != api.OK {
		return nil, e
	}
	x := s.open[n]
	x.listed = append(x.listed, api.Box{Tenant: x.owner, Archive: archive})
	var l []string
	for k := range x.sees() {
		if k.Tenant == x.owner && k.Archive == archive {
			l = append(l, k.Entry)
		}
	}
	slices.Sort(l)
	return l, api.OK
}

func (s *slow) Put(n int, archive, entry, data string) api.Errno {
	if e := s.wrong(n, archive, entry); e != api.OK {
		return e
	}
	if len(data) > 8192 {
		return api.ErrTxnMost
	}
	x := s.open[n]
	x.staged = append(x.staged, has(key(x.owner, archive, entry), data))
	return api.OK
}

func (s *slow) Add(n int, archive, entry, data string) api.Errno {
	if e := s.wrong(n, archive, entry); e != api.OK {
		return e
	}
	ahead, _ := s.Read(n, archive, entry)
	return s.Put(n, archive, entry, ahead+data)
}

func (s *slow) Delete(n int, archive, entry string) api.Errno {
	if e := s.wrong(n, archive, entry); e != api.OK {
		return e
	}
	x := s.open[n]
	x.staged = append(x.staged, gone(key(x.owner, archive, entry)))
	return api.OK
}

func (s *slow) Abort(n int) api.Errno {
	if s.open[n] == nil {
		return api.ErrTxnNone
	}
	delete(s.open, n)
	return api.OK
}

func (s *slow) conflicts(x *slowTxn) bool {
	for _, c := range s.log {
		for _, w := range c.Writes {
			if c.At > x.at && (slices.Contains(x.read, w.Key) || slices.Contains(x.listed, api.Box{Tenant: w.Key.Tenant, Archive: w.Key.Archive})) {
				return true
			}
		}
	}
	return false
}

// writes are what a transaction staged, the last of each entry, by rising keys.
func (x *slowTxn) writes() []api.Write {
	last := map[api.Key]api.Write{}
	for _, w := range x.staged {
		last[w.Key] = w
	}
	return slices.SortedFunc(maps.Values(last), func(a, b api.Write) int { return order(a.Key, b.Key) })
}

func tooMany(owner string, s state) bool {
	archives := 0
	for _, a := range s.list() {
		if a.Tenant == owner {
			archives++
		}
		if archives > 16 || len(a.Entries) > 64 {
			return true
		}
	}
	return false
}

func (s *slow) refusal(x *slowTxn) api.Errno {
	if s.conflicts(x) {
		return api.ErrTxnConflict
	}
	behind := s.state.changed(x.staged)
	if tooMany(x.owner, behind) {
		return api.ErrTxnMost
	}
	may, ahead, then := s.tenant(x.owner), s.state.use(x.owner), behind.use(x.owner)
	if then.Bytes > may.Bytes && then.Bytes > ahead.Bytes || then.Entries > may.Entries && then.Entries > ahead.Entries {
		return api.ErrQuota
	}
	if heavy(x.writes()) > 65536 {
		return api.ErrLong
	}
	return api.OK
}

// heavy is how much a commit of these writes weighs.
func heavy(l []api.Write) int {
	n := 16
	for _, w := range l {
		n += 16 + len(w.Key.Tenant) + len(w.Key.Archive) + len(w.Key.Entry) + len(w.Data)
	}
	return n
}

func (s *slow) Commit(n int) (int, api.Errno) {
	x := s.open[n]
	if x == nil {
		return 0, api.ErrTxnNone
	}
	delete(s.open, n)
	if len(x.staged) == 0 {
		return 0, api.OK
	}
	if e := s.refusal(x); e != api.OK {
		return 0, e
	}
	s.now++
	s.log = append(s.log, api.Commit{At: s.now, Writes: x.writes()})
	s.state = s.state.changed(x.staged)
	return s.now, api.OK
}

func (s *slow) Flush() api.Errno {
	s.safe = s.now
	return api.OK
}

func (s *slow) Safe() int { return s.safe }

func (s *slow) Now() int { return s.now }

func (s *slow) Compact() api.Errno { return s.Flush() }

func (s *slow) Export(n int, archive string) (string, api.Errno) {
	names, e := s.List(n, archive)
	if e != api.OK {
		return "", e
	}
	if len(names) > 64 {
		return "", api.ErrZipMany
	}
	var l []api.Entry
	for _, name := range names {
		l = append(l, entry(name, s.open[n].sees()[key(s.open[n].owner, archive, name)]))
	}
	b, e := zip.Write(l)
	return string(b), e
}

func (s *slow) Import(n int, archive, data string) api.Errno {
	if e := s.wrong(n, archive, "a"); e != api.OK {
		return e
	}
	l, e := zip.Read([]byte(data))
	if e != api.OK {
		return e
	}
	names, _ := s.List(n, archive)
	for _, name := range names {
		if !slices.ContainsFunc(l, func(x api.Entry) bool { return x.Name == name }) {
			s.Delete(n, archive, name)
		}
	}
	for _, x := range l {
		s.Put(n, archive, x.Name, x.Data)
	}
	return api.OK
}

func (s *slow) Use(tenant string) (api.Use, api.Errno) {
	if s.tenant(tenant) == nil {
		return api.Use{}, api.ErrQuotaTenant
	}
	return s.state.use(tenant), api.OK
}

func (s *slow) Dump() []api.Archive { return s.state.list() }

func (s *slow) Txns() []int { return slices.Sorted(maps.Keys(s.open)) }

// told is an answer as a text, of which a list without elements is the same whether it is nil or not.
func told(parts ...any) string {
	var b strings.Builder
	for _, p := range parts {
		fmt.Fprintf(&b, "%+q ", p)
	}
	return b.String()
}

// seen is all that an engine tells without being changed.
func seen(m machine) string {
	var b strings.Builder
	fmt.Fprintf(&b, "now %d, safe %d, open %d\n%s\n", m.Now(), m.Safe(), m.Txns(), told(m.Dump()))
	for _, tenant := range []string{"t", "u", "v", "", "T"} {
		u, e := m.Use(tenant)
		fmt.Fprintf(&b, "%q has %+v, %d\n", tenant, u, e)
	}
	return b.String()
}

// call is a call, and what it is called.
type call struct {
	name string
	do   func(m machine) string
}

// texts are what mixed calls choose from.
type texts struct{ tenants, archives, entries, data, files []string }

func usual() texts {
	return texts{
		tenants:  []string{"t", "t", "t", "u", "u", "v", "T", ""},
		archives: []string{"x", "x", "y", "z-1", "X", "", "seventeen-letters"},
		entries:  []string{"a", "a", "b", "c/d", "..", "A", ""},
		data:     []string{"", "1", "22", "333", "a longer text than most of them"},
		files:    []string{"none", "", file(), file(entry("a", "from a file")), file(entry("b", "1"), entry("e", "2"))},
	}
}

// file is a zip file.
func file(l ...api.Entry) string {
	b, _ := zip.Write(l)
	return string(b)
}

// mixedCall is one of the calls; of the transactions most are such as are open.
func mixedCall(x *rand.Rand, s texts, open []int) call {
	n := x.IntN(12) - 1
	if len(open) > 0 && x.IntN(20) > 0 {
		n = open[x.IntN(len(open))]
	}
	archive, entry, data := pick(x, s.archives...), pick(x, s.entries...), pick(x, s.data...)
	switch x.IntN(14) {
	case 0, 1:
		tenant := pick(x, s.tenants...)
		return call{fmt.Sprintf("Begin(%q)", tenant), func(m machine) string { n, e := m.Begin(tenant); return told(n, e) }}
	case 2:
		return call{fmt.Sprintf("Read(%d, %q, %q)", n, archive, entry), func(m machine) string { d, e := m.Read(n, archive, entry); return told(d, e) }}
	case 3:
		return call{fmt.Sprintf("List(%d, %q)", n, archive), func(m machine) string { l, e := m.List(n, archive); return told(l, e) }}
	case 4, 5, 6:
		return call{fmt.Sprintf("Put(%d, %q, %q, %.40q)", n, archive, entry, data), func(m machine) string { return told(m.Put(n, archive, entry, data)) }}
	case 7:
		return call{fmt.Sprintf("Add(%d, %q, %q, %.40q)", n, archive, entry, data), func(m machine) string { return told(m.Add(n, archive, entry, data)) }}
	case 8:
		return call{fmt.Sprintf("Delete(%d, %q, %q)", n, archive, entry), func(m machine) string { return told(m.Delete(n, archive, entry)) }}
	case 9:
		return call{fmt.Sprintf("Abort(%d)", n), func(m machine) string { return told(m.Abort(n)) }}
	case 10:
		return call{fmt.Sprintf("Export(%d, %q)", n, archive), func(m machine) string { b, e := m.Export(n, archive); return told(b, e) }}
	case 11:
		b := pick(x, s.files...)
		return call{fmt.Sprintf("Import(%d, %q, %.40q)", n, archive, b), func(m machine) string { return told(m.Import(n, archive, b)) }}
	}
	return call{fmt.Sprintf("Commit(%d)", n), func(m machine) string { at, e := m.Commit(n); return told(at, e) }}
}
