package engine_test

import (
	"fmt"
	"math"
	"math/rand/v2"
	"reflect"
	"slices"
	"strings"
	"testing"

	"haversack/api"
	"haversack/disk"
	"haversack/engine"
	"haversack/shelf"
	"haversack/wal"
	"haversack/zip"
)

func tenant(name string, bytes, entries int) api.Tenant {
	return api.Tenant{Name: name, Secret: "secret", Bytes: bytes, Entries: entries}
}

// plenty are tenants who may have all that a state may have.
func plenty(names ...string) []api.Tenant {
	var l []api.Tenant
	for _, name := range names {
		l = append(l, tenant(name, api.MaxTime, api.MaxTime))
	}
	return l
}

func newDisk(t *testing.T, room int) *disk.Disk {
	t.Helper()
	d, e := disk.New(room)
	if e != api.OK {
		t.Fatalf("disk.New(%d): %d", room, e)
	}
	return d
}

func opened(t *testing.T, d *disk.Disk, l []api.Tenant) *engine.Engine {
	t.Helper()
	g, e := engine.Open(d, l)
	if g == nil || e != api.OK {
		t.Fatalf("Open: %d", e)
	}
	return g
}

// made is an engine on a new disk.
func made(t *testing.T, l ...api.Tenant) *engine.Engine {
	t.Helper()
	return opened(t, newDisk(t, api.MaxRoom), l)
}

func is(t *testing.T, what string, got, want api.Errno) {
	t.Helper()
	if got != want {
		t.Errorf("%s: %d, not %d", what, got, want)
	}
}

func brief(s string) string { return fmt.Sprintf("%d bytes %.40q", len(s), s) }

func begin(t *testing.T, m machine, tenant string) int {
	t.Helper()
	n, e := m.Begin(tenant)
	if e != api.OK {
		t.Fatalf("Begin(%q): %d", tenant, e)
	}
	return n
}

func begins(t *testing.T, m machine, tenant string, want int, e api.Errno) {
	t.Helper()
	if n, got := m.Begin(tenant); n != want || got != e {
		t.Errorf("Begin(%q): %d, %d; not %d, %d", tenant, n, got, want, e)
	}
}

func reads(t *testing.T, m machine, n int, archive, entry, want string, e api.Errno) {
	t.Helper()
	if data, got := m.Read(n, archive, entry); data != want || got != e {
		t.Errorf("Read(%d, %q, %q): %s, %d; not %s, %d", n, archive, entry, brief(data), got, brief(want), e)
	}
}

func lists(t *testing.T, m machine, n int, archive string, want ...string) {
	t.Helper()
	if l, e := m.List(n, archive); !slices.Equal(l, want) || e != api.OK {
		t.Errorf("List(%d, %q): %q, %d; not %q", n, archive, l, e, want)
	}
}

func puts(t *testing.T, m machine, n int, archive, entry, data string) {
	t.Helper()
	is(t, fmt.Sprintf("Put(%d, %q, %q, %s)", n, archive, entry, brief(data)), m.Put(n, archive, entry, data), api.OK)
}

func deletes(t *testing.T, m machine, n int, archive, entry string) {
	t.Helper()
	is(t, fmt.Sprintf("Delete(%d, %q, %q)", n, archive, entry), m.Delete(n, archive, entry), api.OK)
}

func commits(t *testing.T, m machine, n, want int, e api.Errno) {
	t.Helper()
	if at, got := m.Commit(n); at != want || got != e {
		t.Errorf("Commit(%d): %d, %d; not %d, %d", n, at, got, want, e)
	}
}

func exports(t *testing.T, m machine, n int, archive string) string {
	t.Helper()
	b, e := m.Export(n, archive)
	if e != api.OK {
		t.Errorf("Export(%d, %q): %d", n, archive, e)
	}
	return b
}

func imports(t *testing.T, m machine, n int, archive, data string) {
	t.Helper()
	is(t, fmt.Sprintf("Import(%d, %q, %s)", n, archive, brief(data)), m.Import(n, archive, data), api.OK)
}

func uses(t *testing.T, m machine, tenant string, bytes, entries int) {
	t.Helper()
	if u, e := m.Use(tenant); u != (api.Use{Bytes: bytes, Entries: entries}) || e != api.OK {
		t.Errorf("Use(%q): %+v, %d; not %d bytes and %d entries", tenant, u, e, bytes, entries)
	}
}

func same(a, b []api.Archive) bool {
	return len(a) == len(b) && (len(a) == 0 || reflect.DeepEqual(a, b))
}

func dumps(t *testing.T, m machine, want ...api.Archive) {
	t.Helper()
	if l := m.Dump(); !same(l, want) {
		t.Errorf("Dump: %.300s, not %.300s", fmt.Sprintf("%+v", l), fmt.Sprintf("%+v", want))
	}
}

func numbers(t *testing.T, m machine, now, safe int, txns ...int) {
	t.Helper()
	if m.Now() != now || m.Safe() != safe || !slices.Equal(m.Txns(), txns) {
		t.Errorf("Now %d, Safe %d, Txns %d; not %d, %d, %d", m.Now(), m.Safe(), m.Txns(), now, safe, txns)
	}
}

func stages(t *testing.T, m machine, n int, writes ...api.Write) {
	t.Helper()
	for _, w := range writes {
		if w.There {
			puts(t, m, n, w.Key.Archive, w.Key.Entry, w.Data)
		} else {
			deletes(t, m, n, w.Key.Archive, w.Key.Entry)
		}
	}
}

// does is a transaction of its own, that writes these.
func does(t *testing.T, m machine, tenant string, writes ...api.Write) {
	t.Helper()
	n := begin(t, m, tenant)
	stages(t, m, n, writes...)
	commits(t, m, n, m.Now()+1, api.OK)
}

// refuses is a transaction of its own, that writes these, is refused, is closed, and changes nothing.
func refuses(t *testing.T, m machine, tenant string, e api.Errno, writes ...api.Write) {
	t.Helper()
	ahead := seen(m)
	n := begin(t, m, tenant)
	stages(t, m, n, writes...)
	commits(t, m, n, 0, e)
	reads(t, m, n, "x", "a", "", api.ErrTxnNone)
	if got := seen(m); got != ahead {
		t.Errorf("a commit that is refused changes %.300s to %.300s", ahead, got)
	}
}

// flushed makes all commits safe.
func flushed(t *testing.T, m machine) {
	t.Helper()
	is(t, "Flush", m.Flush(), api.OK)
	if m.Safe() != m.Now() {
		t.Errorf("behind Flush: Safe %d, Now %d", m.Safe(), m.Now())
	}
}

// compacted makes the disk small, and all commits safe.
func compacted(t *testing.T, d *disk.Disk, m machine) {
	t.Helper()
	is(t, "Compact", m.Compact(), api.OK)
	if m.Safe() != m.Now() {
		t.Errorf("behind Compact: Safe %d, Now %d", m.Safe(), m.Now())
	}
	small(t, d, m)
}

func small(t *testing.T, d *disk.Disk, m machine) {
	t.Helper()
	most := 200000
	for _, a := range m.Dump() {
		most += 300
		for _, x := range a.Entries {
			most += 300 + 3*len(x.Data)
		}
	}
	if d.Used() > most {
		t.Errorf("behind Compact the files have %d bytes, above %d", d.Used(), most)
	}
}

// noise are bytes that can't be packed.
func noise(x *rand.Rand, n int) string {
	b := make([]byte, n)
	for i := range b {
		b[i] = byte(x.Uint32())
	}
	return string(b)
}

func TestExamples(t *testing.T) {
	d := newDisk(t, api.MaxRoom)
	l := []api.Tenant{tenant("a", 1000, 9), tenant("b", 5, 9)}
	g := opened(t, d, l)
	begins(t, g, "a", 1, api.OK)
	begins(t, g, "q", 0, api.ErrQuotaTenant)
	puts(t, g, 1, "x", "e", "hello")
	commits(t, g, 1, 1, api.OK)
	numbers(t, g, 1, 0)
	flushed(t, g)
	uses(t, g, "a", 5, 1)
	begins(t, g, "b", 2, api.OK)
	puts(t, g, 2, "x", "e", "123456")
	commits(t, g, 2, 0, api.ErrQuota)
	reads(t, g, 2, "x", "e", "", api.ErrTxnNone)
	begins(t, g, "a", 3, api.OK)
	puts(t, g, 3, "x", "f", "1")
	commits(t, g, 3, 2, api.OK)
	d.Crash()
	g = opened(t, d, l)
	one, both := archive("a", "x", entry("e", "hello")), archive("a", "x", entry("e", "hello"), entry("f", "1"))
	if now := g.Now(); !(now == 1 && same(g.Dump(), []api.Archive{one}) || now == 2 && same(g.Dump(), []api.Archive{both})) {
		t.Errorf("behind the crash: %d, %+v", now, g.Dump())
	}
	n := begin(t, g, "a")
	b := exports(t, g, n, "x")
	imports(t, g, n, "y", b)
	reads(t, g, n, "y", "e", "hello", api.OK)
	is(t, "Import of none", g.Import(n, "y", "none"), api.ErrZipForm)
}

func TestP21_1TheFirstOfSeveralErrors(t *testing.T) {
	nine := plenty("1", "2", "3", "4", "5", "6", "7", "8", "9")
	bad := []struct {
		l []api.Tenant
		e api.Errno
	}{
		{nine, api.ErrLong},
		{plenty("a", "a"), api.ErrArg},
		{plenty("A"), api.ErrArg},
		{plenty(""), api.ErrArg},
		{[]api.Tenant{tenant("a", -1, 1)}, api.ErrArg},
		{[]api.Tenant{tenant("a", 1, api.MaxTime+1)}, api.ErrArg},
		{[]api.Tenant{{Name: "a", Secret: strings.Repeat("s", 65)}}, api.ErrArg},
		{append(nine, tenant("A", -1, -1)), api.ErrLong},
	}
	for i, x := range bad {
		d := newDisk(t, api.MaxRoom)
		opens(t, nil, x.l, api.ErrNil)
		opens(t, d, x.l, x.e)
		if len(d.Names()) != 0 || d.Steps() != 0 {
			t.Errorf("list %d: the disk was changed", i)
		}
		d.Stop(0)
		opens(t, d, x.l, x.e)
	}
	d := newDisk(t, api.MaxRoom)
	d.Stop(0)
	opens(t, d, plenty("a"), api.ErrDiskDown)
	opens(t, nil, plenty("a"), api.ErrNil)
	opens(t, nil, nil, api.ErrNil)
}

func opens(t *testing.T, d *disk.Disk, l []api.Tenant, want api.Errno) {
	t.Helper()
	if g, e := engine.Open(d, l); e != want || (g == nil) != (want != api.OK) {
		t.Errorf("Open: %v, %d; not %d", g, e, want)
	}
}

func TestP21_1ANewDisk(t *testing.T) {
	lists := [][]api.Tenant{nil, {}, plenty("a"), plenty("1", "2", "3", "4", "5", "6", "7", "8"), {tenant("a", 0, 0)}}
	for _, l := range lists {
		g := made(t, l...)
		numbers(t, g, 0, 0)
		dumps(t, g)
		for _, x := range l {
			uses(t, g, x.Name, 0, 0)
		}
		begins(t, g, "q", 0, api.ErrQuotaTenant)
	}
}

func TestP21_1SmallDisks(t *testing.T) {
	for _, room := range []int{1000, 1001, 5000} {
		g := opened(t, newDisk(t, room), plenty("t"))
		does(t, g, "t", has(key("t", "x", "a"), "one"))
	}
}

// Without a crash all that was done is there, also what is not safe.
func TestP21_1WhatWasDoneIsThereAgain(t *testing.T) {
	d := newDisk(t, api.MaxRoom)
	g := opened(t, d, plenty("t", "u"))
	k := key("t", "x", "a")
	does(t, g, "t", has(k, "one"), has(key("t", "x", "b"), ""))
	does(t, g, "u", has(key("u", "x", "a"), "two"))
	n := begin(t, g, "t")
	puts(t, g, n, "x", "c", "never committed")
	does(t, g, "t", gone(k))
	numbers(t, g, 3, 0, n)

	h := opened(t, d, plenty("t", "u"))
	numbers(t, h, 3, 3)
	dumps(t, h, archive("t", "x", entry("b", "")), archive("u", "x", entry("a", "two")))
	uses(t, h, "t", 0, 1)
	uses(t, h, "u", 3, 1)
	reads(t, h, n, "x", "a", "", api.ErrTxnNone)
	begins(t, h, "t", 1, api.OK)
	puts(t, h, 1, "y", "a", "new")
	commits(t, h, 1, 4, api.OK)
}

func TestP21_1ASavedStateAndTheLogBehindIt(t *testing.T) {
	for ahead := range 4 {
		for behind := range 4 {
			d := newDisk(t, api.MaxRoom)
			g := opened(t, d, plenty("t"))
			for i := range ahead {
				does(t, g, "t", has(key("t", "x", fmt.Sprint(i)), "ahead"))
			}
			compacted(t, d, g)
			for i := range behind {
				does(t, g, "t", has(key("t", "x", fmt.Sprint(i)), "behind"))
			}
			h := opened(t, d, plenty("t"))
			numbers(t, h, ahead+behind, ahead+behind)
			dumps(t, h, g.Dump()...)
			uses(t, h, "t", 5*max(0, ahead-behind)+6*behind, max(ahead, behind))
		}
	}
}

// What others left is there, though they may be other tenants, or may have had more.
func TestP21_1OtherTenants(t *testing.T) {
	d := newDisk(t, api.MaxRoom)
	g := opened(t, d, plenty("t", "u"))
	does(t, g, "t", has(key("t", "x", "a"), "hello"))
	does(t, g, "u", has(key("u", "x", "a"), "other"))
	all := g.Dump()

	h := opened(t, d, []api.Tenant{tenant("s", 9, 9), tenant("u", 2, 2), tenant("v", 9, 9)})
	dumps(t, h, all...)
	uses(t, h, "u", 5, 1)
	uses(t, h, "v", 0, 0)
	begins(t, h, "t", 0, api.ErrQuotaTenant)
	if _, e := h.Use("t"); e != api.ErrQuotaTenant {
		t.Errorf("Use of one that is no tenant: %d", e)
	}
	does(t, h, "v", has(key("v", "x", "a"), "third"))
	does(t, h, "s", has(key("s", "x", "a"), "fourth"))
	all = []api.Archive{archive("s", "x", entry("a", "fourth")), all[0], all[1], archive("v", "x", entry("a", "third"))}
	dumps(t, h, all...)
	compacted(t, d, h)
	dumps(t, h, all...)
	d.Crash()

	g = opened(t, d, plenty("t"))
	numbers(t, g, 4, 4)
	dumps(t, g, all...)
	uses(t, g, "t", 5, 1)
	n := begin(t, g, "t")
	lists(t, g, n, "x", "a")
	deletes(t, g, n, "x", "a")
	commits(t, g, n, 5, api.OK)
	dumps(t, g, all[0], all[2], all[3])
}

// One list has place for 8 tenants, but lists may follow one another.
func TestP21_1MoreThan8TenantsInTheCourseOfTime(t *testing.T) {
	d := newDisk(t, api.MaxRoom)
	names := []string{"-00", "-", "00", "a", "b", "c", "d", "e", "f", "g", "h", "i"}
	var want []api.Archive
	s := state{}
	for i, name := range names {
		g := opened(t, d, plenty(name))
		dumps(t, g, want...)
		numbers(t, g, i, i)
		k := key(name, "x", "a")
		does(t, g, name, has(k, name))
		s[k] = name
		want = s.list()
		compacted(t, d, g)
		d.Crash()
	}
	g := opened(t, d, plenty(names[4:]...))
	dumps(t, g, want...)
	does(t, g, "b", gone(key("b", "x", "a")))
	delete(s, key("b", "x", "a"))
	compacted(t, d, g)
	dumps(t, opened(t, d, nil), s.list()...)
}

func TestP21_1ADiskThatStopsOnTheWay(t *testing.T) {
	d := newDisk(t, api.MaxRoom)
	g := opened(t, d, plenty("t"))
	does(t, g, "t", has(key("t", "x", "a"), "one"))
	compacted(t, d, g)
	does(t, g, "t", has(key("t", "x", "a"), "two"))
	for steps := 0; ; steps++ {
		c := d.Clone()
		c.Stop(steps)
		h, e := engine.Open(c, plenty("t"))
		if e == api.OK {
			numbers(t, h, 2, 2)
			if steps == 0 {
				t.Error("an engine on a disk that has stopped")
			}
			return
		}
		if h != nil || e != api.ErrDiskDown {
			t.Errorf("Open with %d steps: %v, %d", steps, h, e)
		}
	}
}

func TestP21_2Begin(t *testing.T) {
	g := made(t, plenty("t", "u")...)
	for _, name := range []string{"", "T", "v", "t ", strings.Repeat("t", 17)} {
		begins(t, g, name, 0, api.ErrQuotaTenant)
	}
	for i := range 256 {
		begins(t, g, pick(mixed(uint64(i)), "t", "u"), i+1, api.OK)
	}
	begins(t, g, "t", 0, api.ErrTxnMany)
	begins(t, g, "v", 0, api.ErrQuotaTenant)
	is(t, "Abort(7)", g.Abort(7), api.OK)
	begins(t, g, "t", 257, api.OK)
	begins(t, g, "t", 0, api.ErrTxnMany)
	if l := g.Txns(); len(l) != 256 || !slices.IsSorted(l) || slices.Contains(l, 7) || l[255] != 257 {
		t.Errorf("Txns: %d", l)
	}
}

func TestP21_2WhatIsReadAndStaged(t *testing.T) {
	g := made(t, plenty("t", "u")...)
	does(t, g, "t", has(key("t", "x", "a"), "one"))
	n, m := begin(t, g, "t"), begin(t, g, "u")
	reads(t, g, n, "x", "a", "one", api.OK)
	reads(t, g, m, "x", "a", "", api.ErrTxnEntry)
	reads(t, g, n, "X", "a", "", api.ErrTxnName)
	reads(t, g, n, "x", "../a", "", api.ErrTxnName)
	reads(t, g, 99, "X", "A", "", api.ErrTxnNone)
	is(t, "Add", g.Add(n, "x", "a", "!"), api.OK)
	reads(t, g, n, "x", "a", "one!", api.OK)
	is(t, "Add of too much", g.Add(n, "x", "a", strings.Repeat("a", 8189)), api.ErrTxnMost)
	is(t, "Put of too much", g.Put(n, "x", "a", strings.Repeat("a", 8193)), api.ErrTxnMost)
	puts(t, g, n, "x", "b", "two")
	lists(t, g, n, "x", "a", "b")
	lists(t, g, m, "x")
	deletes(t, g, n, "x", "a")
	lists(t, g, n, "x", "b")
	is(t, "Abort", g.Abort(n), api.OK)
	is(t, "Abort again", g.Abort(n), api.ErrTxnNone)
	dumps(t, g, archive("t", "x", entry("a", "one")))
}

func TestP21_2Snapshots(t *testing.T) {
	d := newDisk(t, api.MaxRoom)
	g := opened(t, d, plenty("t"))
	k := key("t", "x", "a")
	does(t, g, "t", has(k, "one"))
	n := begin(t, g, "t")
	does(t, g, "t", has(k, "two"))
	flushed(t, g)
	compacted(t, d, g)
	does(t, g, "t", gone(k))
	reads(t, g, n, "x", "a", "one", api.OK)
	lists(t, g, n, "x", "a")
	commits(t, g, n, 0, api.OK)
}

func TestP21_3ErrorsOfCheck(t *testing.T) {
	g := made(t, tenant("t", 100, 2000))
	k := key("t", "x", "a")
	for _, n := range []int{-1, 0, 1, 99, math.MinInt, math.MaxInt} {
		commits(t, g, n, 0, api.ErrTxnNone)
	}
	n := begin(t, g, "t")
	reads(t, g, n, "x", "a", "", api.ErrTxnEntry)
	puts(t, g, n, "x", "a", strings.Repeat("a", 101)) // more than it may have, too
	does(t, g, "t", has(k, "other"))
	commits(t, g, n, 0, api.ErrTxnConflict)
	commits(t, g, n, 0, api.ErrTxnNone)

	var many []api.Write
	for i := range 65 {
		many = append(many, has(key("t", "y", fmt.Sprint(i)), "xx"))
	}
	refuses(t, g, "t", api.ErrTxnMost, many...)
	many = nil
	for i := range 16 {
		many = append(many, has(key("t", fmt.Sprint(i), "a"), "xxxxxxxx"))
	}
	refuses(t, g, "t", api.ErrTxnMost, many...)
	dumps(t, g, archive("t", "x", entry("a", "other")))
}

func TestP21_3NothingStaged(t *testing.T) {
	d := newDisk(t, api.MaxRoom)
	g := opened(t, d, plenty("t"))
	n := begin(t, g, "t")
	reads(t, g, n, "x", "a", "", api.ErrTxnEntry)
	lists(t, g, n, "x")
	does(t, g, "t", has(key("t", "x", "a"), "one"))
	used, steps := d.Used(), d.Steps()
	commits(t, g, n, 0, api.OK)
	commits(t, g, n, 0, api.ErrTxnNone)
	numbers(t, g, 1, 0)
	if d.Used() != used || d.Steps() != steps {
		t.Error("a commit of nothing changes the disk")
	}
	d.Stop(0)
	commits(t, g, begin(t, g, "t"), 0, api.OK)
}

// Deletes of what was not there are a commit all the same.
func TestP21_3WritesThatChangeNothing(t *testing.T) {
	d := newDisk(t, api.MaxRoom)
	g := opened(t, d, []api.Tenant{tenant("t", 0, 0)})
	does(t, g, "t", gone(key("t", "x", "a")))
	numbers(t, g, 1, 0)
	dumps(t, g)
	uses(t, g, "t", 0, 0)
	numbers(t, opened(t, d, nil), 1, 1)
}

func TestP21_3QuotaEdges(t *testing.T) {
	g := made(t, tenant("t", 10, 3), tenant("u", 10, 3))
	a, b, c, d := key("t", "x", "a"), key("t", "x", "b"), key("t", "y", "c"), key("t", "y", "d")
	refuses(t, g, "t", api.ErrQuota, has(a, "12345678901"))
	does(t, g, "t", has(a, "1234567890"))
	refuses(t, g, "t", api.ErrQuota, has(b, "1"))
	does(t, g, "t", has(b, ""), has(c, ""))
	refuses(t, g, "t", api.ErrQuota, has(d, ""))
	does(t, g, "t", has(d, ""), gone(b))
	refuses(t, g, "t", api.ErrQuota, has(b, ""), has(a, ""))
	does(t, g, "t", has(a, "12345"), has(c, "12345"))
	refuses(t, g, "t", api.ErrQuota, has(c, "123456"))
	does(t, g, "t", has(c, "123456"), has(a, "1234"))
	refuses(t, g, "t", api.ErrQuota, has(key("t", "z", "z"), ""))
	uses(t, g, "t", 10, 3)
	// Other tenants' entries are not counted.
	does(t, g, "u", has(key("u", "x", "a"), "1234567890"))
	uses(t, g, "u", 10, 1)
}

// Whoever has more than it may have may change what it has, as long as there is no more of it.
func TestP21_3AboveTheQuota(t *testing.T) {
	d := newDisk(t, api.MaxRoom)
	a, b, c := key("t", "x", "a"), key("t", "x", "b"), key("t", "x", "c")
	does(t, opened(t, d, plenty("t")), "t", has(a, "12345"), has(b, "12345"))
	g := opened(t, d, []api.Tenant{tenant("t", 4, 1)})
	refuses(t, g, "t", api.ErrQuota, has(a, "123456"))
	refuses(t, g, "t", api.ErrQuota, has(c, ""))
	does(t, g, "t", has(a, "54321"))
	does(t, g, "t", has(c, "54321"), gone(a))
	does(t, g, "t", has(b, "123456"), has(c, "1"))
	uses(t, g, "t", 7, 2)
	refuses(t, g, "t", api.ErrQuota, has(c, "12"))
	refuses(t, g, "t", api.ErrQuota, has(a, ""), has(b, "")) // bytes would be as many as may be, entries too many
	does(t, g, "t", gone(b))
	refuses(t, g, "t", api.ErrQuota, has(c, "12345"))
	does(t, g, "t", has(c, "1234"))

	h := opened(t, d, []api.Tenant{tenant("t", 9, 0)})
	does(t, h, "t", has(c, "123456789"))
	refuses(t, h, "t", api.ErrQuota, has(c, "1234567890"))
	does(t, h, "t", gone(c))
	refuses(t, h, "t", api.ErrQuota, has(c, ""))
}

// The state that a commit is held against is that of now, not that of the snapshot.
func TestP21_3QuotaOfTheStateOfNow(t *testing.T) {
	g := made(t, tenant("t", 10, 2))
	a, b := key("t", "x", "a"), key("t", "x", "b")
	n, m := begin(t, g, "t"), begin(t, g, "t")
	puts(t, g, n, "x", "a", "123456")
	puts(t, g, m, "x", "b", "123456")
	commits(t, g, n, 1, api.OK)
	commits(t, g, m, 0, api.ErrQuota)
	n = begin(t, g, "t")
	puts(t, g, n, "x", "a", "12345678")
	does(t, g, "t", gone(a))
	does(t, g, "t", has(b, "1234"))
	commits(t, g, n, 0, api.ErrQuota)
	n = begin(t, g, "t")
	puts(t, g, n, "x", "a", "1234567890")
	does(t, g, "t", gone(b))
	commits(t, g, n, 5, api.OK)
	uses(t, g, "t", 10, 1)
}

// Each small commit behind each other one, of tenants who may have little, whatever they could have ahead.
func TestP21_3QuotasOfAllShortRows(t *testing.T) {
	a, b := key("t", "x", "a"), key("t", "y", "b")
	var commit [][]api.Write
	options := func(k api.Key) []api.Write {
		return []api.Write{has(k, ""), has(k, "1"), has(k, "22"), gone(k)}
	}
	for _, w := range options(a) {
		commit = append(commit, []api.Write{w})
		for _, v := range options(b) {
			commit = append(commit, []api.Write{w, v})
		}
	}
	for bytes := range 4 {
		for entries := range 3 {
			for _, first := range commit {
				d := newDisk(t, api.MaxRoom)
				does(t, opened(t, d, plenty("t")), "t", first...)
				ahead := newSlow(plenty("t"))
				does(t, ahead, "t", first...)
				l := []api.Tenant{tenant("t", bytes, entries)}
				for _, second := range commit {
					both(t, opened(t, d.Clone(), l), ahead.reopened(l), second)
				}
			}
		}
	}
}

// both does a commit on an engine and on its model, and holds them against each other.
func both(t *testing.T, g *engine.Engine, s *slow, writes []api.Write) {
	t.Helper()
	n, m := begin(t, g, "t"), begin(t, s, "t")
	stages(t, g, n, writes...)
	stages(t, s, m, writes...)
	at, e := g.Commit(n)
	want, f := s.Commit(m)
	if at != want || e != f {
		t.Errorf("%+v behind %+v: %d, %d; not %d, %d", writes, s.state, at, e, want, f)
	}
	u, _ := g.Use("t")
	if u != s.state.use("t") || !same(g.Dump(), s.Dump()) {
		t.Errorf("%+v: %+v, %+v", writes, u, g.Dump())
	}
}

// weighing are writes of a commit of just that weight.
func weighing(weight int) []api.Write {
	var l []api.Write
	for i := 0; ; i++ {
		k := key("t", "x", fmt.Sprint("entry", i))
		left := weight - heavy(append(l, has(k, "")))
		l = append(l, has(k, strings.Repeat("w", min(left, 8192))))
		if left <= 8192 {
			return l
		}
	}
}

func TestP21_3TheHeaviestCommit(t *testing.T) {
	d := newDisk(t, api.MaxRoom)
	g := opened(t, d, plenty("t"))
	if n := heavy(weighing(65536)); n != 65536 {
		t.Fatalf("the weight is %d", n)
	}
	refuses(t, g, "t", api.ErrLong, weighing(65537)...)
	refuses(t, g, "t", api.ErrLong, weighing(70000)...)
	does(t, g, "t", weighing(65536)...)
	does(t, g, "t", weighing(65535)...)
	flushed(t, g)
	d.Crash()
	h := opened(t, d, plenty("t"))
	numbers(t, h, 2, 2)
	dumps(t, h, g.Dump()...)
}

// Of entries that are gone the names weigh all the same; small writes weigh most, in their number.
func TestP21_3ManyLightWrites(t *testing.T) {
	d := newDisk(t, api.MaxRoom)
	g := opened(t, d, plenty("t"))
	const most = (65536 - 16) / (16 + 1 + 1 + 4)
	writes := func(n int) []api.Write {
		var l []api.Write
		for i := range n {
			l = append(l, gone(key("t", "x", fmt.Sprint(1000+i))))
		}
		return l
	}
	if n := heavy(writes(most)); n > 65536 || n+22 <= 65536 {
		t.Fatalf("the weight is %d", n)
	}
	does(t, g, "t", writes(most)...)
	refuses(t, g, "t", api.ErrLong, writes(most+1)...)
	var full []api.Write
	for i := range 16 {
		for j := range 64 {
			full = append(full, has(key("t", fmt.Sprint("archive", i), strings.Repeat("n", 25)+fmt.Sprint(j)), ""))
		}
	}
	does(t, g, "t", full...)
	numbers(t, opened(t, d, plenty("t")), 2, 2)
	dumps(t, opened(t, d, plenty("t")), g.Dump()...)
}

func TestP21_3QuotaAheadOfWeightAheadOfTheDisk(t *testing.T) {
	d := newDisk(t, api.MaxRoom)
	g := opened(t, d, []api.Tenant{tenant("t", 66000, 99)})
	d.Stop(0)
	refuses(t, g, "t", api.ErrQuota, weighing(70000)...)
	refuses(t, g, "t", api.ErrLong, weighing(65537)...)
	refuses(t, g, "t", api.ErrDiskDown, weighing(65536)...)
}

// A commit that the disk refuses changes nothing; what the tenant may have is not used up by it.
func TestP21_3ADiskThatHasStopped(t *testing.T) {
	d := newDisk(t, api.MaxRoom)
	l := []api.Tenant{tenant("t", 10, 2)}
	g := opened(t, d, l)
	does(t, g, "t", has(key("t", "x", "a"), "one"))
	flushed(t, g)
	n := begin(t, g, "t")
	puts(t, g, n, "x", "a", "stays open")
	d.Stop(0)
	for range 9 {
		refuses(t, g, "t", api.ErrDiskDown, has(key("t", "x", "b"), "1234567"))
		refuses(t, g, "t", api.ErrDiskDown, gone(key("t", "x", "a")))
	}
	refuses(t, g, "t", api.ErrQuota, has(key("t", "x", "b"), "12345678"))
	numbers(t, g, 1, 1, n)
	reads(t, g, n, "x", "a", "stays open", api.OK)
	is(t, "Flush", g.Flush(), api.ErrDiskDown)
	is(t, "Compact", g.Compact(), api.ErrDiskDown)
	numbers(t, g, 1, 1, n)
	d.Crash()
	h := opened(t, d, l)
	numbers(t, h, 1, 1)
	does(t, h, "t", has(key("t", "x", "b"), "1234567"))
}

// A disk that is full refuses what has no place; what has, and what was done, is not touched by that.
func TestP21_3AFullDisk(t *testing.T) {
	for room := 1000; room < 1100; room += 7 {
		x := mixed(uint64(room))
		d := newDisk(t, room)
		l := []api.Tenant{tenant("t", 2000, 20)}
		g := opened(t, d, l)
		s := state{}
		refused := 0
		for i := range 120 {
			k := key("t", "x", fmt.Sprint(x.IntN(10)))
			w := []api.Write{has(k, noise(x, x.IntN(100)))}
			used := d.Used()
			n := begin(t, g, "t")
			stages(t, g, n, w...)
			ahead := seen(g)
			at, e := g.Commit(n)
			switch e {
			case api.OK:
				s = s.changed(w)
				if at != g.Now() {
					t.Errorf("Commit: %d, Now %d", at, g.Now())
				}
			case api.ErrDiskFull:
				refused++
				if used+heavy(w)+16 <= room {
					t.Errorf("room %d: %d are used, %d refused", room, used, heavy(w))
				}
				if got := strings.Replace(seen(g), fmt.Sprint("open []"), fmt.Sprintf("open [%d]", n), 1); got != ahead {
					t.Errorf("a refused commit: %s, not %s", got, ahead)
				}
			default:
				t.Fatalf("Commit: %d", e)
			}
			dumps(t, g, s.list()...)
			if i%10 == 0 {
				dumps(t, opened(t, d.Clone(), l), s.list()...)
			}
			if i%40 == 39 {
				g = opened(t, d, l)
			}
		}
		if refused == 0 {
			t.Errorf("room %d: the disk was never full", room)
		}
	}
}

func TestP21_4FlushAndSafe(t *testing.T) {
	d := newDisk(t, api.MaxRoom)
	g := opened(t, d, plenty("t"))
	flushed(t, g)
	k := key("t", "x", "a")
	safe := 0
	for i := 1; i <= 40; i++ {
		does(t, g, "t", has(k, fmt.Sprint(i)))
		if g.Now() != i || g.Safe() < safe || g.Safe() > i {
			t.Fatalf("commit %d: Now %d, Safe %d, at least %d", i, g.Now(), g.Safe(), safe)
		}
		safe = g.Safe()
		c := d.Clone()
		c.Crash()
		if h := opened(t, c, nil); h.Now() < safe || h.Now() > i {
			t.Errorf("commit %d, %d are safe: %d are there", i, safe, h.Now())
		}
		if i%3 == 0 {
			flushed(t, g)
			safe = i
		}
	}
	d.Stop(0)
	is(t, "Flush", g.Flush(), api.ErrDiskDown)
	numbers(t, g, 40, safe)
}

// Flush of what is safe already hangs on the disk, too.
func TestP21_4FlushOfADiskThatHasStopped(t *testing.T) {
	d := newDisk(t, api.MaxRoom)
	g := opened(t, d, plenty("t"))
	d.Stop(0)
	is(t, "Flush", g.Flush(), api.ErrDiskDown)
	is(t, "Compact", g.Compact(), api.ErrDiskDown)
	numbers(t, g, 0, 0)
}

func TestP21_5TheDiskIsSmall(t *testing.T) {
	x := mixed(5)
	for _, size := range []int{0, 1, 100, 8192} {
		for _, count := range []int{0, 1, 5, 60, 150} {
			d := newDisk(t, api.MaxRoom)
			g := opened(t, d, plenty("t", "u"))
			for i := range count {
				name := pick(x, "t", "u")
				does(t, g, name, has(key(name, fmt.Sprint(i%16), fmt.Sprint("e", i/16)), noise(x, size)))
			}
			for range 2 {
				compacted(t, d, g)
				d.Crash()
				g = opened(t, d, plenty("t", "u"))
				numbers(t, g, count, count)
				small(t, d, g)
			}
		}
	}
}

// However many commits there were, behind Compact only the state counts.
func TestP21_5ManyCommitsOfOneEntry(t *testing.T) {
	x := mixed(6)
	d := newDisk(t, api.MaxRoom)
	g := opened(t, d, plenty("t"))
	for i := range 2000 {
		does(t, g, "t", has(key("t", "x", "a"), noise(x, 8000)))
		if i%400 == 399 {
			compacted(t, d, g)
		}
	}
	does(t, g, "t", gone(key("t", "x", "a")))
	compacted(t, d, g)
	dumps(t, g)
	if d.Used() > 200000 {
		t.Errorf("without any entry: %d bytes", d.Used())
	}
	h := opened(t, d, plenty("t"))
	numbers(t, h, 2001, 2001)
	dumps(t, h)
	does(t, h, "t", has(key("t", "x", "a"), "on"))
	numbers(t, h, 2002, 2001)
}

// The longest records are laid last, where a log may keep them.
func TestP21_5LongRecords(t *testing.T) {
	for n := range 6 {
		d := newDisk(t, api.MaxRoom)
		g := opened(t, d, plenty("t"))
		for range n {
			does(t, g, "t", weighing(65536)...)
		}
		clear := begin(t, g, "t")
		names, _ := g.List(clear, "x")
		for _, name := range names {
			deletes(t, g, clear, "x", name)
		}
		g.Commit(clear)
		compacted(t, d, g)
		dumps(t, opened(t, d, nil))
	}
}

func TestP21_5TransactionsStay(t *testing.T) {
	d := newDisk(t, api.MaxRoom)
	g := opened(t, d, plenty("t"))
	k := key("t", "x", "a")
	does(t, g, "t", has(k, "one"))
	n, m := begin(t, g, "t"), begin(t, g, "t")
	reads(t, g, n, "x", "a", "one", api.OK)
	puts(t, g, n, "x", "b", "mine")
	puts(t, g, m, "y", "a", "blind")
	does(t, g, "t", has(k, "two"))
	ahead := seen(g)
	compacted(t, d, g)
	if got := strings.Replace(seen(g), "safe 2", "safe 0", 1); got != ahead {
		t.Errorf("Compact changes %s to %s", ahead, got)
	}
	reads(t, g, n, "x", "a", "one", api.OK)
	lists(t, g, n, "x", "a", "b")
	commits(t, g, n, 0, api.ErrTxnConflict)
	commits(t, g, m, 3, api.OK)
	begins(t, g, "t", 5, api.OK)
}

// Where the disk has no room for the state, Compact says so, and nothing is lost.
func TestP21_5AFullDisk(t *testing.T) {
	x := mixed(7)
	for room := 1200; room < 4000; room += 100 {
		d := newDisk(t, room)
		g := opened(t, d, plenty("t"))
		for i := 0; ; i++ {
			n := begin(t, g, "t")
			puts(t, g, n, "x", fmt.Sprint(i%20), noise(x, 60))
			if _, e := g.Commit(n); e != api.OK || d.Used() > 1000 {
				break
			}
		}
		n := begin(t, g, "t")
		puts(t, g, n, "y", "a", "")
		safe, now, want := g.Safe(), g.Now(), g.Dump()
		e := g.Compact()
		if e == api.OK {
			safe = now
		} else if e != api.ErrDiskFull {
			t.Errorf("room %d: Compact %d", room, e)
		}
		if room == 1200 && e == api.OK || room == 3900 && e != api.OK {
			t.Errorf("room %d: Compact %d", room, e)
		}
		numbers(t, g, now, safe, n)
		dumps(t, g, want...)
		reads(t, g, n, "y", "a", "", api.OK)
		h := opened(t, d.Clone(), plenty("t"))
		numbers(t, h, now, now)
		dumps(t, h, want...)
		flushed(t, g)
		d.Crash()
		dumps(t, opened(t, d, plenty("t")), want...)
	}
}

func TestP21_6Export(t *testing.T) {
	g := made(t, plenty("t", "u")...)
	does(t, g, "t", has(key("t", "x", "b"), strings.Repeat("b", 999)), has(key("t", "x", "a/b"), ""), has(key("t", "x", "c"), "gone"))
	does(t, g, "u", has(key("u", "x", "a"), "another's"))
	n := begin(t, g, "t")
	deletes(t, g, n, "x", "c")
	puts(t, g, n, "x", "a", "own")
	does(t, g, "t", has(key("t", "x", "d"), "too late"))
	want := file(entry("a", "own"), entry("a/b", ""), entry("b", strings.Repeat("b", 999)))
	if b := exports(t, g, n, "x"); b != want {
		t.Errorf("Export: %s, not %s", brief(b), brief(want))
	}
	if b := exports(t, g, n, "none"); b != file() {
		t.Errorf("Export of none: %s", brief(b))
	}
	if b, e := g.Export(n, "X"); b != "" || e != api.ErrTxnName {
		t.Errorf("Export of no name: %s, %d", brief(b), e)
	}
	if b, e := g.Export(n+9, "X"); b != "" || e != api.ErrTxnNone {
		t.Errorf("Export of no transaction: %s, %d", brief(b), e)
	}
}

func TestP21_6ExportOfAsManyAsMayBe(t *testing.T) {
	g := made(t, plenty("t")...)
	x := mixed(8)
	n := begin(t, g, "t")
	var l []api.Entry
	for i := range 64 {
		l = append(l, entry(fmt.Sprint("e", 10+i), noise(x, 8192)))
		puts(t, g, n, "x", l[i].Name, l[i].Data)
	}
	if b := exports(t, g, n, "x"); b != file(l...) {
		t.Errorf("Export of 64: %s", brief(b))
	}
	puts(t, g, n, "x", "one-more", "")
	if b, e := g.Export(n, "x"); b != "" || e != api.ErrZipMany {
		t.Errorf("Export of 65: %s, %d", brief(b), e)
	}
	deletes(t, g, n, "x", "one-more")
	if b := exports(t, g, n, "x"); b != file(l...) {
		t.Errorf("Export of 64 again: %s", brief(b))
	}
}

// What is noted shows in a conflict with a commit that comes in between, if something is staged.
func noted(t *testing.T, do func(m machine, n int), other api.Write) bool {
	t.Helper()
	g := made(t, plenty("t")...)
	does(t, g, "t", has(key("t", "x", "a"), "one"))
	n := begin(t, g, "t")
	do(g, n)
	puts(t, g, n, "other", "a", "staged")
	does(t, g, "t", other)
	_, e := g.Commit(n)
	return e == api.ErrTxnConflict
}

func TestP21_6WhatIsNoted(t *testing.T) {
	newOne, old, elsewhere := has(key("t", "x", "new"), ""), gone(key("t", "x", "a")), has(key("t", "y", "a"), "")
	many := func(m machine, n int) {
		for i := range 65 {
			m.Put(n, "x", fmt.Sprint(i), "")
		}
		if _, e := m.Export(n, "x"); e != api.ErrZipMany {
			t.Errorf("Export: %d", e)
		}
		for i := range 65 {
			m.Delete(n, "x", fmt.Sprint(i))
		}
	}
	rows := []struct {
		name  string
		do    func(m machine, n int)
		noted bool
	}{
		{"Export", func(m machine, n int) { m.Export(n, "x") }, true},
		{"Export of too many", many, true},
		{"Export of no name", func(m machine, n int) { m.Export(n, "X") }, false},
		{"Export of another one", func(m machine, n int) { m.Export(n, "z") }, false},
		{"Import", func(m machine, n int) { m.Import(n, "x", file(entry("b", ""))) }, true},
		{"Import of none", func(m machine, n int) { m.Import(n, "x", file()) }, true},
		{"Import of another one", func(m machine, n int) { m.Import(n, "z", file()) }, false},
		{"a refused Import", func(m machine, n int) { m.Import(n, "x", "none") }, false},
		{"Import under no name", func(m machine, n int) { m.Import(n, "X", file()) }, false},
	}
	for _, r := range rows {
		if noted(t, r.do, newOne) != r.noted || noted(t, r.do, old) != r.noted || noted(t, r.do, elsewhere) {
			t.Errorf("%s: noted as listed, or not", r.name)
		}
	}
}

func TestP21_6Import(t *testing.T) {
	g := made(t, plenty("t", "u")...)
	does(t, g, "t", has(key("t", "x", "a"), "old"), has(key("t", "x", "b"), "old"), has(key("t", "y", "a"), "old"))
	n := begin(t, g, "t")
	puts(t, g, n, "x", "c", "staged")
	deletes(t, g, n, "x", "d")
	imports(t, g, n, "x", file(entry("d", "new"), entry("b", "new"), entry("e/f", "")))
	lists(t, g, n, "x", "b", "d", "e/f")
	reads(t, g, n, "x", "a", "", api.ErrTxnEntry)
	reads(t, g, n, "x", "b", "new", api.OK)
	reads(t, g, n, "x", "d", "new", api.OK)
	reads(t, g, n, "x", "e/f", "", api.OK)
	lists(t, g, n, "y", "a")
	commits(t, g, n, 2, api.OK)
	dumps(t, g, archive("t", "x", entry("b", "new"), entry("d", "new"), entry("e/f", "")), archive("t", "y", entry("a", "old")))
	n = begin(t, g, "t")
	imports(t, g, n, "x", file())
	commits(t, g, n, 3, api.OK)
	dumps(t, g, archive("t", "y", entry("a", "old")))
	n = begin(t, g, "t")
	imports(t, g, n, "none", file())
	commits(t, g, n, 0, api.OK) // nothing is staged
}

func TestP21_6ImportIsRefused(t *testing.T) {
	good := file(entry("a", strings.Repeat("new", 99)))
	bad := func(i int, b byte) string { return good[:i] + string([]byte{b}) + good[i+1:] }
	var many []api.Entry
	for i := range 64 {
		many = append(many, entry(fmt.Sprint(i), ""))
	}
	g := made(t, plenty("t")...)
	does(t, g, "t", has(key("t", "x", "a"), "old"))
	n := begin(t, g, "t")
	for i := range good {
		for _, b := range []byte{0, 1, 9, 255, good[i] ^ 1} {
			text := bad(i, b)
			_, want := zip.Read([]byte(text))
			if want == api.OK {
				continue
			}
			is(t, fmt.Sprint("byte ", i), g.Import(n, "x", text), want)
		}
	}
	for _, text := range []string{"", "none", good[1:], good[:len(good)-1], good + good, strings.Repeat("x", 2000000)} {
		_, want := zip.Read([]byte(text))
		is(t, brief(text), g.Import(n, "x", text), want)
		is(t, "no name, "+brief(text), g.Import(n, "X", text), api.ErrTxnName)
		is(t, "no transaction, "+brief(text), g.Import(n+1, "X", text), api.ErrTxnNone)
		is(t, "no transaction, but a name, "+brief(text), g.Import(0, "x", text), api.ErrTxnNone)
	}
	reads(t, g, n, "x", "a", "old", api.OK)
	commits(t, g, n, 0, api.OK) // nothing is staged
	n = begin(t, g, "t")
	imports(t, g, n, "x", file(many...))
	commits(t, g, n, 2, api.OK)
	uses(t, g, "t", 0, 64)
}

// What comes in is held against quotas as all else.
func TestP21_6ImportAndQuotas(t *testing.T) {
	g := made(t, tenant("t", 10, 2))
	does(t, g, "t", has(key("t", "x", "a"), "1234567890"), has(key("t", "x", "b"), ""))
	n := begin(t, g, "t")
	imports(t, g, n, "x", file(entry("c", "12345"), entry("d", "12345")))
	commits(t, g, n, 2, api.OK)
	n = begin(t, g, "t")
	imports(t, g, n, "y", file(entry("c", "")))
	commits(t, g, n, 0, api.ErrQuota)
	n = begin(t, g, "t")
	imports(t, g, n, "x", file(entry("c", "12345678901")))
	commits(t, g, n, 0, api.ErrQuota)
	dumps(t, g, archive("t", "x", entry("c", "12345"), entry("d", "12345")))
}

func TestP21_7UseDumpAndTxns(t *testing.T) {
	g := made(t, plenty("t", "u")...)
	does(t, g, "u", has(key("u", "x", "b"), "1234"), has(key("u", "x", "a"), ""), has(key("u", "w", "z"), "5"))
	does(t, g, "t", has(key("t", "x", "b"), "12"))
	n, m := begin(t, g, "t"), begin(t, g, "u")
	puts(t, g, n, "x", "c", "not yet")
	uses(t, g, "t", 2, 1)
	uses(t, g, "u", 5, 3)
	for _, name := range []string{"", "T", "v", "tt"} {
		if u, e := g.Use(name); u != (api.Use{}) || e != api.ErrQuotaTenant {
			t.Errorf("Use(%q): %+v, %d", name, u, e)
		}
	}
	dumps(t, g, archive("t", "x", entry("b", "12")), archive("u", "w", entry("z", "5")), archive("u", "x", entry("a", ""), entry("b", "1234")))
	numbers(t, g, 2, 0, n, m)
	does(t, g, "u", gone(key("u", "x", "b")), gone(key("u", "w", "z")))
	uses(t, g, "u", 0, 1)
	dumps(t, g, archive("t", "x", entry("b", "12")), archive("u", "x", entry("a", "")))
	if e := shelf.Check(g.Dump()); e != api.OK {
		t.Errorf("what is dumped is no state: %d", e)
	}
}

// mixedRun does mixed calls on an engine and on its model, which are flushed, compacted and opened again in between.
func mixedRun(t *testing.T, seed uint64, s texts, tenants func(x *rand.Rand) []api.Tenant) {
	t.Helper()
	x := mixed(seed)
	d := newDisk(t, api.MaxRoom)
	l := tenants(x)
	g, model := opened(t, d, l), newSlow(l)
	var log []string
	for range 200 {
		c := mixedCall(x, s, model.Txns())
		switch x.IntN(40) {
		case 0:
			c = call{"Flush", func(m machine) string { return told(m.Flush(), m.Safe()) }}
		case 1:
			c = call{"Compact", func(m machine) string { return told(m.Compact(), m.Safe()) }}
		case 2:
			if x.IntN(2) == 0 && g.Safe() == g.Now() {
				d.Crash(x.IntN(1000), x.IntN(1000), -x.IntN(1000))
			}
			l = tenants(x)
			g, model = opened(t, d, l), model.reopened(l)
			log = append(log, fmt.Sprintf("Open(%+v)", l))
			continue
		}
		log = append(log, c.name)
		got, want := c.do(g), c.do(model)
		safe := g.Safe()
		if safe < model.safe || safe > g.Now() {
			t.Fatalf("seed %d, %s: Safe %d", seed, strings.Join(log, ", "), safe)
		}
		model.safe = safe
		if got != want || seen(g) != seen(model) {
			t.Fatalf("seed %d, %s: %.300s\n%s\nnot %.300s\n%s", seed, strings.Join(log, ", "), got, seen(g), want, seen(model))
		}
	}
}

func TestP21_9MixedCallsAsTheWordsSay(t *testing.T) {
	for seed := range uint64(150) {
		mixedRun(t, seed, usual(), func(x *rand.Rand) []api.Tenant {
			return []api.Tenant{tenant("t", pick(x, 3, 30, 300), pick(x, 1, 3, 30)), tenant("u", pick(x, 0, 1, 30), pick(x, 0, 1, 9))}
		})
	}
}

func TestP21_9MixedCallsNearTheLimits(t *testing.T) {
	s := usual()
	s.archives = []string{"x", "y"}
	s.entries = []string{"a", "b", "c", "d", "e", "f", "g", "h"}
	s.data = []string{strings.Repeat("l", 8192), strings.Repeat("l", 8100), strings.Repeat("k", 4096), ""}
	s.files = append(s.files, file(entry("a", s.data[0]), entry("b", s.data[0]), entry("c", s.data[0]), entry("d", s.data[0])))
	for seed := range uint64(15) {
		mixedRun(t, 1000+seed, s, func(x *rand.Rand) []api.Tenant {
			return []api.Tenant{tenant("t", pick(x, 65536, 131072), 16), tenant("u", 65536, 9)}
		})
	}
}

// Whatever a tenant does: what it has is never above what it may have.
func TestP21_9NoUseAboveWhatMayBe(t *testing.T) {
	for seed := range uint64(40) {
		x := mixed(2000 + seed)
		l := []api.Tenant{tenant("t", 20, 4), tenant("u", 50, 2)}
		d := newDisk(t, api.MaxRoom)
		g := opened(t, d, l)
		for range 200 {
			mixedCall(x, usual(), g.Txns()).do(g)
			for _, y := range l {
				if u, _ := g.Use(y.Name); u.Bytes > y.Bytes || u.Entries > y.Entries {
					t.Fatalf("seed %d: %q has %+v", seed, y.Name, u)
				}
			}
			if x.IntN(50) == 0 {
				d.Crash(x.IntN(100), x.IntN(100), x.IntN(100))
				g = opened(t, d, l)
			}
		}
	}
}

func TestP21_9FlushAndCompactChangeNoAnswer(t *testing.T) {
	for seed := range uint64(60) {
		x, y := mixed(3000+seed), mixed(seed)
		l := []api.Tenant{tenant("t", 60, 6), tenant("u", 50, 2)}
		g, h := made(t, l...), made(t, l...)
		for range 150 {
			c := mixedCall(x, usual(), g.Txns())
			if got, want := c.do(g), c.do(h); got != want {
				t.Fatalf("seed %d: %s: %s, not %s", seed, c.name, got, want)
			}
			if y.IntN(5) == 0 {
				h.Flush()
			}
			if y.IntN(9) == 0 {
				h.Compact()
			}
			if g.Now() != h.Now() || !same(g.Dump(), h.Dump()) || !slices.Equal(g.Txns(), h.Txns()) {
				t.Fatalf("seed %d, %s: Flush and Compact change what is there", seed, c.name)
			}
		}
	}
}

func TestP21_9ExportAndImportLeaveAllAsItWas(t *testing.T) {
	x := mixed(9)
	for _, size := range []int{0, 1, 300, 8192} {
		for _, count := range []int{0, 1, 2, 7} {
			g := made(t, plenty("t")...)
			var l []api.Write
			for i := range count {
				l = append(l, has(key("t", "x", fmt.Sprint("e", i)), pick(x, noise(x, size), strings.Repeat("s", size))))
			}
			commitsAny(t, g, l...)
			ahead := g.Dump()
			n := begin(t, g, "t")
			imports(t, g, n, "x", exports(t, g, n, "x"))
			if _, e := g.Commit(n); e != api.OK {
				t.Errorf("Commit: %d", e)
			}
			dumps(t, g, ahead...)
			uses(t, g, "t", size*count, count)
		}
	}
}

// commitsAny is a transaction of its own, that may write nothing.
func commitsAny(t *testing.T, m machine, writes ...api.Write) {
	t.Helper()
	n := begin(t, m, "t")
	stages(t, m, n, writes...)
	if _, e := m.Commit(n); e != api.OK {
		t.Errorf("Commit: %d", e)
	}
}

// rewritten puts other bytes into a file's place, safely.
func rewritten(d *disk.Disk, name string, b []byte) {
	d.Remove(name)
	d.Create(name)
	d.Append(name, b)
	d.Sync(name)
	d.SyncDir()
}

func TestASpoiltSavedState(t *testing.T) {
	d := newDisk(t, api.MaxRoom)
	g := opened(t, d, plenty("t"))
	does(t, g, "t", has(key("t", "x", "a"), "one"))
	compacted(t, d, g)
	does(t, g, "t", has(key("t", "x", "a"), "two"))
	for _, name := range d.Names() {
		b, _ := d.Read(name)
		for i := range b {
			c := d.Clone()
			turned := slices.Clone(b)
			turned[i] ^= 1 << (i % 8)
			rewritten(c, name, turned)
			h, e := engine.Open(c, plenty("t"))
			if strings.HasPrefix(name, "shelf.") && (h != nil || e != api.ErrEngineSpoilt) {
				t.Errorf("%s, byte %d turned: %v, %d", name, i, h, e)
			}
		}
	}
}

func TestALogOfAnother(t *testing.T) {
	for _, text := range []string{"", "another's record", "\x00\x00\x00\x00", "\x01\x00\x00\x002\x01\x00\x00\x00t", "\x01\x00\x00\x00x\x01\x00\x00\x00t"} {
		d := newDisk(t, api.MaxRoom)
		log, _, _ := wal.Open(d)
		log.Append(text)
		opens(t, d, plenty("t"), api.ErrEngineSpoilt)
		opens(t, d, plenty("t"), api.ErrEngineSpoilt)
	}
}

func TestR1AnyNumbersAndTexts(t *testing.T) {
	all := []int{math.MinInt, -1, 0, 1, 2, 3, 4, 1 << 40, math.MaxInt}
	long := strings.Repeat("l", 100000)
	names := []string{"", "x", "X", "..", "a/b", "\xff\x00", long}
	g, s := made(t, plenty("t", "u")...), newSlow(plenty("t", "u"))
	for i := range 3 {
		does(t, g, "t", has(key("t", "x", "x"), fmt.Sprint(i)))
		does(t, s, "t", has(key("t", "x", "x"), fmt.Sprint(i)))
	}
	for _, name := range names {
		_, e := g.Begin(name)
		is(t, "Begin", e, api.ErrQuotaTenant)
		_, e = g.Use(name)
		is(t, "Use", e, api.ErrQuotaTenant)
	}
	begin(t, g, "t")
	begin(t, s, "t")
	for _, n := range all {
		for _, a := range names {
			for _, b := range names {
				for name, do := range map[string]func(m machine) string{
					"Read":   func(m machine) string { d, e := m.Read(n, a, b); return told(d, e) },
					"List":   func(m machine) string { d, e := m.List(n, a); return told(d, e) },
					"Put":    func(m machine) string { return told(m.Put(n, a, b, a)) },
					"Add":    func(m machine) string { return told(m.Add(n, a, b, b)) },
					"Delete": func(m machine) string { return told(m.Delete(n, a, b)) },
					"Export": func(m machine) string { d, e := m.Export(n, a); return told(d, e) },
					"Import": func(m machine) string { return told(m.Import(n, a, b)) },
				} {
					if name == "Put" || name == "Add" || name == "Delete" {
						g.Abort(4)
						s.Abort(4)
					}
					if got, want := do(g), do(s); got != want {
						t.Fatalf("%s(%d, %.20q, %.20q): %.99s, not %.99s", name, n, a, b, got, want)
					}
				}
			}
		}
		if n != 4 {
			commits(t, g, n, 0, api.ErrTxnNone)
			is(t, "Abort", g.Abort(n), api.ErrTxnNone)
		}
	}
}

func TestR2ListsAreNotKept(t *testing.T) {
	l := append(make([]api.Tenant, 0, 9), plenty("t", "u")...)
	spare := l[:3]
	spare[2] = tenant("spare", 1, 1)
	g := made(t, l...)
	h := opened(t, newDisk(t, api.MaxRoom), l)
	if !reflect.DeepEqual(spare, append(plenty("t", "u"), tenant("spare", 1, 1))) {
		t.Error("the list of tenants was written into")
	}
	l[0], l[1] = tenant("q", 0, 0), tenant("r", 0, 0)
	does(t, g, "t", has(key("t", "x", "a"), "one"))
	does(t, h, "u", has(key("u", "x", "a"), "one"))
	begins(t, h, "q", 0, api.ErrQuotaTenant)
}

func TestR2ListsThatComeOutAreNew(t *testing.T) {
	d := newDisk(t, api.MaxRoom)
	does(t, opened(t, d, plenty("u")), "u", has(key("u", "x", "a"), "another's"))
	g := opened(t, d, plenty("t"))
	does(t, g, "t", has(key("t", "x", "a"), "one"), has(key("t", "x", "b"), "two"))
	n := begin(t, g, "t")
	want := seen(g)
	for range 2 {
		l := g.Dump()
		for i := range l {
			for j := range l[i].Entries {
				l[i].Entries[j] = entry("spoilt", "spoilt")
			}
			_ = append(l[i].Entries, entry("spoilt", ""))
			l[i] = archive("spoilt", "spoilt")
		}
		names, _ := g.List(n, "x")
		names[0] = "spoilt"
		g.Txns()[0] = 99
		if got := seen(g); got != want {
			t.Errorf("who writes into lists changes %s to %s", want, got)
		}
		lists(t, g, n, "x", "a", "b")
	}
	compacted(t, d, g)
	dumps(t, opened(t, d, nil), g.Dump()...)
}

func TestR2EnginesKnowNothingOfOneAnother(t *testing.T) {
	g, h := made(t, plenty("t")...), made(t, plenty("t")...)
	does(t, g, "t", has(key("t", "x", "a"), "one"))
	begin(t, g, "t")
	numbers(t, h, 0, 0)
	dumps(t, h)
	begins(t, h, "t", 1, api.OK)
}

func TestR2NothingElseCounts(t *testing.T) {
	run := func() (string, []string) {
		x := mixed(77)
		d := newDisk(t, api.MaxRoom)
		g := opened(t, d, plenty("t", "u"))
		var b strings.Builder
		for range 300 {
			b.WriteString(mixedCall(x, usual(), g.Txns()).do(g))
		}
		g.Compact()
		return b.String() + seen(g), d.Names()
	}
	text, names := run()
	for range 3 {
		if again, l := run(); again != text || !slices.Equal(names, l) {
			t.Error("the same calls answer something else")
		}
	}
}

func TestR3ANilEngine(t *testing.T) {
	var g *engine.Engine
	for _, n := range []int{0, 1} {
		for _, name := range []string{"x", "X", ""} {
			for what, got := range map[string]string{
				"Begin":  func() string { n, e := g.Begin(name); return told(n, e) }(),
				"Commit": func() string { n, e := g.Commit(n); return told(n, e) }(),
			} {
				if got != told(0, api.ErrNil) {
					t.Errorf("%s: %s", what, got)
				}
			}
			for what, got := range map[string]string{
				"Read":   func() string { d, e := g.Read(n, name, name); return told(d, e) }(),
				"Export": func() string { d, e := g.Export(n, name); return told(d, e) }(),
			} {
				if got != told("", api.ErrNil) {
					t.Errorf("%s: %s", what, got)
				}
			}
			if l, e := g.List(n, name); len(l) != 0 || e != api.ErrNil {
				t.Errorf("List: %v, %d", l, e)
			}
			if u, e := g.Use(name); u != (api.Use{}) || e != api.ErrNil {
				t.Errorf("Use: %v, %d", u, e)
			}
			is(t, "Put", g.Put(n, name, name, ""), api.ErrNil)
			is(t, "Add", g.Add(n, name, name, ""), api.ErrNil)
			is(t, "Delete", g.Delete(n, name, name), api.ErrNil)
			is(t, "Abort", g.Abort(n), api.ErrNil)
			is(t, "Import", g.Import(n, name, ""), api.ErrNil)
		}
	}
	is(t, "Flush", g.Flush(), api.ErrNil)
	is(t, "Compact", g.Compact(), api.ErrNil)
	numbers(t, g, 0, 0)
	dumps(t, g)
}
