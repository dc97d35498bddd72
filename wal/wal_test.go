package wal_test

import (
	"fmt"
	"maps"
	"math"
	"math/rand/v2"
	"slices"
	"strings"
	"testing"

	"haversack/api"
	"haversack/disk"
	"haversack/wal"
)

// mixed tells numbers that look mixed and are the same in each run.
func mixed(seed uint64) *rand.Rand { return rand.New(rand.NewPCG(seed, 10)) }

func times(s string, n int) string { return strings.Repeat(s, n) }

func laid(t *testing.T, room int) *disk.Disk {
	t.Helper()
	d, e := disk.New(room)
	if d == nil || e != api.OK {
		t.Fatalf("New(%d): %v, %d", room, d, e)
	}
	return d
}

func must(t *testing.T, what string, e api.Errno) {
	t.Helper()
	if e != api.OK {
		t.Fatalf("%s: %d", what, e)
	}
}

// A book holds what a log answers against the words of the chapter.
type book struct {
	given  []string // the data of the records 1, 2, ..
	safe   int      // all up to this one are safe
	cut    int      // all up to this one were cut
	tried  int      // all up to this one may be cut: a Cut that was refused counts, too
	weight int      // what was appended since all was cut and synced, with 32 bytes more a record
	opens  int      // since then
	long   int      // bytes of the longest record
	all    bool     // all is cut, and nothing was appended since
}

func (k *book) copy() *book {
	other := *k
	other.given = slices.Clone(k.given)
	return &other
}

// wrong tells what P10.1 does not allow of the records and the Last that an Open told.
func (k *book) wrong(crashed bool, r []api.Record, last int) string {
	for i, x := range r {
		switch {
		case x.Seq != r[0].Seq+i || x.Seq < 1:
			return fmt.Sprintf("the number %d at %d", x.Seq, i)
		case x.Seq > len(k.given):
			return fmt.Sprintf("the number %d was not given, %d at most", x.Seq, len(k.given))
		case x.Data != k.given[x.Seq-1]:
			return fmt.Sprintf("record %d: %.20q (%d bytes), not %.20q (%d)", x.Seq, x.Data, len(x.Data), k.given[x.Seq-1], len(k.given[x.Seq-1]))
		}
	}
	if len(r) == 0 {
		return k.wrongWithoutRecords(crashed, last)
	}
	end := r[len(r)-1].Seq
	switch {
	case last != end:
		return fmt.Sprintf("Last %d, not %d", last, end)
	case r[0].Seq > k.tried+1:
		return fmt.Sprintf("it begins with %d, and %d were cut", r[0].Seq, k.tried)
	case !crashed && end != len(k.given):
		return fmt.Sprintf("it ends with %d, without a crash, and %d were given", end, len(k.given))
	case end < k.safe:
		return fmt.Sprintf("it ends with %d, and %d were safe", end, k.safe)
	case end < k.cut:
		return fmt.Sprintf("it ends with %d, and %d were cut: those that are left are the last", end, k.cut)
	}
	return ""
}

func (k *book) wrongWithoutRecords(crashed bool, last int) string {
	switch {
	case !crashed && (last != len(k.given) || k.tried != len(k.given)):
		return fmt.Sprintf("no records, Last %d, without a crash; %d were given, %d cut", last, len(k.given), k.tried)
	case last < k.safe || last > k.tried:
		return fmt.Sprintf("no records, Last %d; %d were safe, %d cut", last, k.safe, k.tried)
	}
	return ""
}

// told notes what an Open told: all of it is there behind any crash, till it is cut anew.
func (k *book) told(l *wal.Log) {
	k.given = k.given[:l.Last()]
	k.safe = l.Last()
	k.cut = l.First() - 1
	k.tried = k.cut
	k.all = false
}

// A keeper does calls on a log, and holds all it answers against the book.
type keeper struct {
	book
	t    *testing.T
	d    *disk.Disk
	room int
	l    *wal.Log
	note string // what was done, for a complaint
}

func keep(t *testing.T, room int) *keeper {
	t.Helper()
	return &keeper{t: t, d: laid(t, room), room: room}
}

func (k *keeper) fail(form string, more ...any) {
	k.t.Helper()
	k.t.Fatalf("%s: %s", k.note, fmt.Sprintf(form, more...))
}

func (k *keeper) add(form string, more ...any) { k.note += " " + fmt.Sprintf(form, more...) }

// open tells whether the log could be opened: else the disk has stopped.
func (k *keeper) open(crashed bool) bool {
	k.t.Helper()
	k.opens++
	l, r, e := wal.Open(k.d)
	k.add("open")
	if e != api.OK {
		if l != nil || len(r) > 0 || e != api.ErrDiskDown || !k.d.Down() {
			k.fail("Open: %v, %d records, %d", l, len(r), e)
		}
		return false
	}
	if s := k.wrong(crashed, r, l.Last()); s != "" {
		k.fail("Open, crashed %v: %s", crashed, s)
	}
	first := l.Last() + 1
	if len(r) > 0 {
		first = r[0].Seq
	}
	if l.First() != first || l.Synced() != l.Last() {
		k.fail("First %d, Synced %d; it told %d to %d", l.First(), l.Synced(), first, l.Last())
	}
	k.l = l
	k.told(l)
	k.look()
	return true
}

// look holds what the log tells of itself, and how many files it has, against the book.
func (k *keeper) look() {
	k.t.Helper()
	if k.d.Down() {
		return
	}
	if k.l.Last() != len(k.given) || k.l.Synced() > k.l.Last() || k.l.First() > k.tried+1 {
		k.fail("Last %d, Synced %d, First %d; given %d, cut %d", k.l.Last(), k.l.Synced(), k.l.First(), len(k.given), k.tried)
	}
	if n, most := len(logs(k.d)), 2+k.weight/16384+k.opens; n > most {
		k.fail("%d files, of at most %d", n, most)
	}
}

func (k *keeper) append(data string) bool {
	k.t.Helper()
	used := k.d.Used()
	n, e := k.l.Append(data)
	k.add("append(%d)=%d", len(data), e)
	if e != api.OK {
		full := e == api.ErrDiskFull && used+len(data)+32 > k.room
		down := e == api.ErrDiskDown && k.d.Down()
		if n != 0 || !full && !down || k.l.Last() != len(k.given) {
			k.fail("Append: %d, %d, Last %d, used %d", n, e, k.l.Last(), used)
		}
		return false
	}
	k.given = append(k.given, data)
	k.weight += len(data) + 32
	k.long = max(k.long, len(data))
	k.all = false
	if n != len(k.given) {
		k.fail("Append: %d, not %d", n, len(k.given))
	}
	k.seen()
	k.look()
	return true
}

// seen notes what is safe without having been asked for: it never falls.
func (k *keeper) seen() {
	k.t.Helper()
	if k.l.Synced() < k.safe {
		k.fail("Synced %d, and was %d", k.l.Synced(), k.safe)
	}
	k.safe = k.l.Synced()
}

func (k *keeper) sync() bool {
	k.t.Helper()
	e := k.l.Sync()
	k.add("sync=%d", e)
	if e != api.OK {
		if e != api.ErrDiskDown || !k.d.Down() {
			k.fail("Sync: %d", e)
		}
		return false
	}
	if k.l.Synced() != len(k.given) {
		k.fail("Synced %d of %d", k.l.Synced(), len(k.given))
	}
	k.safe = len(k.given)
	if k.all {
		k.weight, k.opens = 0, 0
		k.small()
	}
	k.look()
	return true
}

// small is the bound of a log of which all is cut.
func (k *keeper) small() {
	k.t.Helper()
	if k.d.Down() {
		return
	}
	names := logs(k.d)
	for _, name := range names {
		b, e := k.d.Read(name)
		if e != api.OK || len(b) > 16484+k.long {
			k.fail("all is cut: %s with %d bytes, the longest record had %d", name, len(b), k.long)
		}
	}
	if len(names) > 2 {
		k.fail("all is cut: %q", names)
	}
}

func (k *keeper) cutTo(seq int) bool {
	k.t.Helper()
	e := k.l.Cut(seq)
	k.add("cut(%d of %d)=%d", seq, len(k.given), e)
	k.tried = max(k.tried, seq)
	if e != api.OK {
		if e != api.ErrDiskDown || !k.d.Down() {
			k.fail("Cut: %d", e)
		}
		return false
	}
	k.cut = max(k.cut, seq)
	k.all = seq == len(k.given)
	k.seen()
	k.look()
	return true
}

// crash goes on with a disk that has crashed, opening it till that goes well.
func (k *keeper) crash(choices ...int) {
	k.t.Helper()
	k.add("crash%v", choices)
	must(k.t, "Crash", k.d.Crash(choices...))
	if !k.open(true) {
		k.fail("a disk that has not stopped")
	}
}

// twin is a keeper of a like disk, from which this one does not know anything.
func (k *keeper) twin() *keeper {
	other := *k
	other.book = *k.book.copy()
	other.d = k.d.Clone()
	other.l = nil
	return &other
}

// now holds First against what an Open would tell, without a crash.
func (k *keeper) now() {
	k.t.Helper()
	if k.d.Down() {
		return
	}
	other := k.twin()
	if first := k.l.First(); !other.open(false) && !other.d.Down() || other.l != nil && other.l.First() != first {
		k.fail("First %d", first)
	}
}

// logs tells the names of a log's files.
func logs(d *disk.Disk) []string {
	return slices.DeleteFunc(d.Names(), func(name string) bool { return !strings.HasPrefix(name, "log.") })
}

// files is all that stands on a disk.
func files(d *disk.Disk) map[string]string {
	out := map[string]string{}
	for _, name := range d.Names() {
		b, _ := d.Read(name)
		out[name] = string(b)
	}
	return out
}

func opened(t *testing.T, d *disk.Disk) (*wal.Log, []api.Record) {
	t.Helper()
	l, r, e := wal.Open(d)
	if l == nil || e != api.OK {
		t.Fatalf("Open: %v, %d", l, e)
	}
	return l, r
}

// said tells records as "1=a 2=b".
func said(r []api.Record) string {
	var out []string
	for _, x := range r {
		out = append(out, fmt.Sprintf("%d=%.20s", x.Seq, x.Data))
	}
	return strings.Join(out, " ")
}

func put(t *testing.T, l *wal.Log, first int, data ...string) {
	t.Helper()
	for i, x := range data {
		if n, e := l.Append(x); n != first+i || e != api.OK {
			t.Fatalf("Append(%.20q): %d, %d, not %d", x, n, e, first+i)
		}
	}
}

func TestExamples(t *testing.T) {
	for _, choices := range [][]int{nil, {0, 1000}, {0, 17}, {0, 16}, {0, -18}} {
		d := laid(t, api.MaxRoom)
		l, r := opened(t, d)
		if len(r) != 0 || l.Last() != 0 || l.First() != 1 || l.Synced() != 0 {
			t.Errorf("a new disk: %s, %d, %d, %d", said(r), l.Last(), l.First(), l.Synced())
		}
		put(t, l, 1, "a", "b")
		if n := l.Synced(); n < 0 || n > 2 {
			t.Errorf("Synced: %d", n)
		}
		if e := l.Sync(); e != api.OK || l.Synced() != 2 {
			t.Errorf("Sync: %d, %d", e, l.Synced())
		}
		put(t, l, 3, "c")
		must(t, "Crash", d.Crash(choices...))
		l, r = opened(t, d)
		last := l.Last()
		if s := said(r); s != "1=a 2=b" && s != "1=a 2=b 3=c" || last != len(r) {
			t.Errorf("crashed: %s, %d", s, last)
		}
		if e := l.Cut(9); e != api.ErrWalCut {
			t.Errorf("Cut(9): %d", e)
		}
		if e := l.Cut(2); e != api.OK {
			t.Errorf("Cut(2): %d", e)
		}
		l, r = opened(t, d)
		if s := "1=a 2=b 3=c"[:4*last-1]; !strings.HasSuffix(s, said(r)) || last == 3 && len(r) == 0 || l.Last() != last {
			t.Errorf("cut: %s of %s, %d", said(r), s, l.Last())
		}
		if n, e := l.Append(times("x", 65537)); n != 0 || e != api.ErrLong {
			t.Errorf("Append: %d, %d", n, e)
		}
	}
}

func TestP10_1NewDisksOfAllRooms(t *testing.T) {
	for _, room := range []int{1000, 1001, 16384, 65536, api.MaxRoom} {
		d := laid(t, room)
		l, r := opened(t, d)
		if len(r) != 0 || l.Last() != 0 || l.First() != 1 || l.Synced() != 0 {
			t.Errorf("room %d: %s, %d, %d, %d", room, said(r), l.Last(), l.First(), l.Synced())
		}
		put(t, l, 1, times("x", 800))
		if _, r := opened(t, d); said(r) != "1="+times("x", 20) {
			t.Errorf("room %d: %s", room, said(r))
		}
	}
	for room := 1; room < 1000; room++ {
		d := laid(t, room)
		l, r, e := wal.Open(d)
		if e != api.OK && (l != nil || len(r) != 0 || e != api.ErrDiskFull) || e == api.OK && (l == nil || l.Last() != 0) {
			t.Errorf("room %d: %v, %s, %d", room, l, said(r), e)
		}
	}
}

func TestP10_1AStoppedDisk(t *testing.T) {
	d := laid(t, 10000)
	must(t, "Stop", d.Stop(0))
	if l, r, e := wal.Open(d); l != nil || len(r) != 0 || e != api.ErrDiskDown {
		t.Errorf("a new disk: %v, %v, %d", l, r, e)
	}
	must(t, "Crash", d.Crash())
	l, _ := opened(t, d)
	must(t, "Stop", d.Stop(0))
	if e := l.Sync(); e != api.ErrDiskDown {
		t.Errorf("Sync without records: %d", e)
	}
	must(t, "Crash", d.Crash())
	l, _ = opened(t, d)
	put(t, l, 1, "a", "b")
	must(t, "Sync", l.Sync())
	must(t, "Stop", d.Stop(0))
	if l, r, e := wal.Open(d); l != nil || len(r) != 0 || e != api.ErrDiskDown {
		t.Errorf("with a log: %v, %v, %d", l, r, e)
	}
	if n, e := l.Append("c"); n != 0 || e != api.ErrDiskDown || l.Last() != 2 {
		t.Errorf("Append: %d, %d", n, e)
	}
	if e := l.Sync(); e != api.ErrDiskDown || l.Synced() != 2 {
		t.Errorf("Sync: %d, %d", e, l.Synced())
	}
	if e := l.Cut(2); e != api.ErrDiskDown || l.Last() != 2 {
		t.Errorf("Cut: %d", e)
	}
	must(t, "Crash", d.Crash())
	if l, r := opened(t, d); said(r) != "1=a 2=b" || l.Last() != 2 {
		t.Errorf("crashed: %s, %d", said(r), l.Last())
	}
}

func TestP10_1WithoutACrashAllThatWereAppended(t *testing.T) {
	k := keep(t, api.MaxRoom)
	k.open(false)
	for i := range 60 {
		k.append(times(string(rune('a'+i%26)), i*i*3))
		if i%7 == 3 {
			k.sync()
		}
		if i%5 == 0 {
			k.open(false)
		}
		k.now()
	}
	if k.open(false); k.l.Last() != 60 || k.l.First() != 1 {
		t.Errorf("%d, %d", k.l.Last(), k.l.First())
	}
}

func TestP10_1WhatOpenToldIsSafe(t *testing.T) {
	for _, sizes := range [][]int{{1}, {0, 0}, {5, 20000}, {20000, 5}, {20000, 20000, 20000, 0}} {
		for choice := range 9 {
			k := keep(t, api.MaxRoom)
			k.open(false)
			for _, n := range sizes {
				k.append(times("x", n))
			}
			k.open(false)
			for range 3 {
				k.crash(choice, choice, choice)
				if k.l.Last() != len(sizes) || k.l.First() != 1 {
					t.Fatalf("%v: %d to %d", sizes, k.l.First(), k.l.Last())
				}
			}
		}
	}
}

func TestP10_1OtherFilesDoNotMatter(t *testing.T) {
	d := laid(t, api.MaxRoom)
	others := map[string]string{"log": "a", "logs.1": "b", "a.log.1": "c", "shelf.1": "d", "1": "e", "-log.1": ""}
	for name, data := range others {
		must(t, "Create", d.Create(name))
		must(t, "Append", d.Append(name, []byte(data)))
		must(t, "Sync", d.Sync(name))
	}
	must(t, "SyncDir", d.SyncDir())
	l, r := opened(t, d)
	if len(r) != 0 || l.Last() != 0 {
		t.Errorf("%s, %d", said(r), l.Last())
	}
	for i := range 30 {
		put(t, l, i+1, times("x", 2000))
	}
	must(t, "Cut", l.Cut(25))
	must(t, "Sync", l.Sync())
	put(t, l, 31, "torn")
	must(t, "Crash", d.Crash(0, 1, 1, 1, 1, 1, 1, 1, 1, 1, 1))
	l, _ = opened(t, d)
	must(t, "Cut", l.Cut(l.Last()))
	must(t, "Sync", l.Sync())
	got := files(d)
	maps.DeleteFunc(got, func(name, _ string) bool { return strings.HasPrefix(name, "log.") })
	if !maps.Equal(got, others) {
		t.Errorf("%q, not %q", got, others)
	}
}

func TestP10_1NoRecordsAndTheCountBehindCuts(t *testing.T) {
	for choice := -4; choice < 5; choice++ {
		k := keep(t, api.MaxRoom)
		k.open(false)
		for range 5 {
			k.append("a")
		}
		k.cutTo(5)
		k.open(false)
		if k.l.Last() != 5 || k.l.First() > 6 {
			t.Fatalf("%d, %d", k.l.Last(), k.l.First())
		}
		k.cutTo(5)
		k.crash(choice, choice)
		k.cutTo(5)
		k.sync()
		k.append("b")
		k.crash(choice, choice)
		if k.l.Last() < 5 || k.l.Last() > 6 {
			t.Fatalf("%d: %d", choice, k.l.Last())
		}
	}
}

func TestP10_1LostRecordsThatWereNotSafe(t *testing.T) {
	d := laid(t, 10000)
	l, _ := opened(t, d)
	put(t, l, 1, "a", "b")
	must(t, "Crash", d.Crash())
	l, r := opened(t, d)
	if len(r) != 0 || l.Last() != 0 || l.First() != 1 {
		t.Errorf("%s, %d, %d", said(r), l.Last(), l.First())
	}
	put(t, l, 1, "c")
	must(t, "Sync", l.Sync())
	must(t, "Crash", d.Crash(1, 1, 1))
	if _, r := opened(t, d); said(r) != "1=c" {
		t.Error(said(r))
	}
}

// A record that a crash kept in part must not stand in the way of those that come later.
func TestP10_1EachByteAtWhichACrashMayTearRecords(t *testing.T) {
	data := []string{"", "\x00", times("\x00", 50), "x", times("y", 50), "1=a"}
	for _, safe := range []int{0, 1, 3} {
		for at := range 260 {
			for _, choice := range []int{at, -at - 1} {
				k := keep(t, api.MaxRoom)
				k.open(false)
				for i, x := range data {
					k.append(x)
					if i+1 == safe {
						k.sync()
					}
				}
				k.crash(1, choice)
				k.append("next")
				k.append("")
				k.crash(1, choice%7)
				k.append("more")
				k.sync()
				n := k.l.Last()
				k.crash(1, choice, choice)
				if k.l.Last() != n || k.l.First() != 1 {
					t.Fatalf("%d safe, choice %d: %d to %d, not to %d", safe, choice, k.l.First(), k.l.Last(), n)
				}
			}
		}
	}
}

// The rest of a record may be just what a whole record would be, were it at the beginning.
func TestP10_1RecordsThatHoldRecords(t *testing.T) {
	d := laid(t, api.MaxRoom)
	l, _ := opened(t, d)
	put(t, l, 1, "one", "two", "three")
	inner := files(d)[logs(d)[0]]
	for at := range 3*len(inner) + 100 {
		k := keep(t, api.MaxRoom)
		k.open(false)
		k.append("one")
		k.sync()
		k.append(inner)
		k.append(times("\x00", 16) + inner)
		k.crash(1, at)
		k.append("two")
		k.append(inner)
		k.sync()
		k.crash(1, at)
	}
}

func TestP10_1BytesThatACrashLeftDoNotPileUpFiles(t *testing.T) {
	k := keep(t, api.MaxRoom)
	k.open(false)
	for i := range 300 {
		k.append("r")
		k.sync()
		k.append("lost")
		torn := slices.Repeat([]int{5}, 70)
		torn[0] = 0
		k.crash(torn...)
		if n := len(logs(k.d)); k.l.Last() != i+1 || n > 3 {
			t.Fatalf("crash %d: Last %d, %d files", i, k.l.Last(), n)
		}
	}
}

func TestP10_1AFullDiskIsOpened(t *testing.T) {
	for _, room := range []int{1000, 17000, 40000} {
		for torn := range 30 {
			k := keep(t, room)
			k.open(false)
			for k.append(times("x", 500)) {
				k.sync()
			}
			for k.append("yy") {
			}
			for k.append("") {
			}
			n := len(logs(k.d))
			k.crash(0, torn, torn, torn)
			if len(logs(k.d)) > n {
				t.Errorf("room %d: %q, and were %d", room, logs(k.d), n)
			}
			for k.append("z") {
			}
			k.crash(0, torn+1, torn+1, torn+1)
			must(t, "Cut", k.l.Cut(k.l.Last()))
			put(t, k.l, k.l.Last()+1, times("x", 500))
		}
	}
}

// A crash may bring back what was removed, beside what took its place.
func TestP10_1ADiskAboveItsRoomIsOpened(t *testing.T) {
	for choice := range 60 {
		for _, all := range []bool{false, true} {
			k := keep(t, 2000)
			k.open(false)
			if all {
				k.append("all is cut, and the count is kept by a file alone")
				k.cutTo(1)
			}
			k.sync()
			k.append(times("x", 1400))
			k.sync()
			k.cutTo(k.l.Last())
			k.append(times("y", 1700))
			k.append("z")
			k.crash(1, choice, choice*31, choice*31)
			k.crash(1, choice)
			k.cutTo(k.l.Last())
			k.sync()
			k.append("on")
			k.sync()
			k.crash()
		}
	}
}

func TestP10_1ADiskAboveItsRoomAndATornFileThatKeepsTheCount(t *testing.T) {
	d := laid(t, 1000)
	must(t, "Create", d.Create("f"))
	must(t, "Append", d.Append("f", make([]byte, 900)))
	must(t, "Sync", d.Sync("f"))
	l, _ := opened(t, d)
	put(t, l, 1, "a")
	must(t, "Cut", l.Cut(1))
	must(t, "Sync", l.Sync())
	must(t, "Remove", d.Remove("f"))
	put(t, l, 2, times("x", 800))
	must(t, "Crash", d.Crash(0, 0, 700, 700))
	if d.Used() <= 1000 {
		t.Fatalf("used %d", d.Used())
	}
	l, r := opened(t, d)
	if len(r) != 0 || l.Last() != 1 || l.First() != 2 {
		t.Errorf("%s, %d, %d", said(r), l.Last(), l.First())
	}
	must(t, "Remove", d.Remove("f"))
	put(t, l, 2, "b")
}

func TestP10_1ADiskWithAsManyFilesAsMayBe(t *testing.T) {
	d := laid(t, api.MaxRoom)
	for i := range 64 {
		must(t, "Create", d.Create(fmt.Sprintf("f%d", i)))
	}
	must(t, "SyncDir", d.SyncDir())
	l, r, e := wal.Open(d)
	if e == api.OK {
		var n int
		if n, e = l.Append("a"); n != 0 || l.Last() != 0 || l.First() != 1 {
			t.Errorf("Append: %d, %d; %d, %d", n, e, l.Last(), l.First())
		}
	}
	if e != api.ErrDiskMany || len(r) != 0 {
		t.Errorf("%s, %d", said(r), e)
	}
	must(t, "Remove", d.Remove("f9"))
	l, _ = opened(t, d)
	put(t, l, 1, "a", "b", times("x", 20000))
	must(t, "Sync", l.Sync())
	put(t, l, 4, "c", "d", "e")
	must(t, "Sync", l.Sync())
	// A record is torn, and there is no file to spare.
	put(t, l, 7, "torn")
	must(t, "Crash", d.Crash(slices.Repeat([]int{7}, 70)...))
	l, r = opened(t, d)
	if len(r) != 6 || l.Last() != 6 {
		t.Errorf("%s, %d", said(r), l.Last())
	}
	if n, e := l.Append("on"); n != 0 || e != api.ErrDiskMany || l.Last() != 6 {
		t.Errorf("Append: %d, %d, %d", n, e, l.Last())
	}
	must(t, "Remove", d.Remove("f8"))
	put(t, l, 7, "on")
	must(t, "Sync", l.Sync())
	must(t, "Crash", d.Crash())
	if _, r := opened(t, d); len(r) != 7 || r[6].Data != "on" {
		t.Errorf("%s, not 6 and on", said(r))
	}
}

func TestP10_1NoFileToSpareForATornOne(t *testing.T) {
	for safe := range 3 {
		d := laid(t, api.MaxRoom)
		l, _ := opened(t, d)
		put(t, l, 1, []string{"a", "b"}[:safe]...)
		must(t, "Sync", l.Sync())
		put(t, l, safe+1, "torn")
		for i := range 63 {
			must(t, "Create", d.Create(fmt.Sprintf("f%d", i)))
		}
		must(t, "SyncDir", d.SyncDir())
		must(t, "Crash", d.Crash(slices.Repeat([]int{7}, 70)...))
		l, r := opened(t, d)
		if len(r) != safe || l.Last() != safe || l.First() != 1 {
			t.Errorf("%s, %d, %d", said(r), l.Last(), l.First())
		}
		must(t, "Remove", d.Remove("f9"))
		put(t, l, safe+1, "on")
		must(t, "Sync", l.Sync())
		must(t, "Crash", d.Crash())
		if _, r := opened(t, d); len(r) != safe+1 || r[safe].Data != "on" {
			t.Errorf("%s, not %d and on", said(r), safe)
		}
	}
}

// A file alone keeps the count, and is torn, and there is no file to spare: refused, till there is one.
func TestP10_1NoFileToSpareForTheCount(t *testing.T) {
	d := laid(t, api.MaxRoom)
	l, _ := opened(t, d)
	put(t, l, 1, "a", "b")
	must(t, "Cut", l.Cut(2))
	must(t, "Sync", l.Sync())
	for i := range 64 - len(logs(d)) {
		must(t, "Create", d.Create(fmt.Sprintf("f%d", i)))
	}
	must(t, "SyncDir", d.SyncDir())
	put(t, l, 3, "c")
	must(t, "Crash", d.Crash(slices.Repeat([]int{7}, 70)...))
	l, r, e := wal.Open(d)
	if e != api.ErrDiskMany || l != nil || len(r) != 0 {
		t.Errorf("%v, %s, %d", l, said(r), e)
	}
	must(t, "Remove", d.Remove("f0"))
	l, r = opened(t, d)
	if len(r) != 0 || l.Last() != 2 || l.First() != 3 {
		t.Errorf("%s, %d, %d", said(r), l.Last(), l.First())
	}
	put(t, l, 3, "d")
	must(t, "Sync", l.Sync())
	must(t, "Crash", d.Crash())
	if _, r := opened(t, d); said(r) != "3=d" {
		t.Error(said(r))
	}
}

func TestP10_2LengthsOfRecords(t *testing.T) {
	d := laid(t, api.MaxRoom)
	l, _ := opened(t, d)
	var want []api.Record
	for _, n := range []int{0, 1, 2, 255, 256, 16383, 16384, 16385, 65535, 65536, 0} {
		data := times("\x00\xff", n/2) + times("z", n%2)
		put(t, l, len(want)+1, data)
		want = append(want, api.Record{Seq: len(want) + 1, Data: data})
	}
	for _, n := range []int{65537, 65538, 131072} {
		if got, e := l.Append(times("x", n)); got != 0 || e != api.ErrLong || l.Last() != len(want) {
			t.Errorf("%d bytes: %d, %d; Last %d", n, got, e, l.Last())
		}
	}
	if _, r := opened(t, d); !slices.Equal(r, want) {
		t.Errorf("%s, not %s", said(r), said(want))
	}
	must(t, "Crash", d.Crash())
	if _, r := opened(t, d); !slices.Equal(r, want) {
		t.Errorf("crashed: %s, not %s", said(r), said(want))
	}
}

func TestP10_2ARefusedRecordIsNone(t *testing.T) {
	for _, room := range []int{1000, 20000, 50000} {
		k := keep(t, room)
		k.open(false)
		for k.append(times("x", 700)) {
		}
		n := k.l.Last()
		if k.append(times("y", 700)) || k.l.Last() != n {
			t.Errorf("room %d: %d", room, k.l.Last())
		}
		for k.append("") {
		}
		k.now()
		k.sync()
		n = k.l.Last()
		k.crash()
		if k.l.Last() != n {
			t.Errorf("room %d: %d, not %d", room, k.l.Last(), n)
		}
		must(t, "Cut", k.l.Cut(n))
		put(t, k.l, n+1, times("x", 700))
	}
}

// A log must leave files to others, and its records must not end where its files do.
func TestP10_2AsManyRecordsAsTheRoomHolds(t *testing.T) {
	k := keep(t, api.MaxRoom)
	k.open(false)
	for k.append(times("x", 65000)) {
		k.note = ""
	}
	if used := k.d.Used(); used < api.MaxRoom-65100 {
		t.Errorf("used %d", used)
	}
	k.cutTo(k.l.Last())
	for range 200 {
		k.append(times("x", 17000))
		k.note = ""
	}
	if err := k.d.Create("another"); err != api.OK {
		t.Errorf("%d, %d files", err, len(logs(k.d)))
	}
	k.sync()
	k.now()
	k.crash(1)
	if k.l.Last() != len(k.given) {
		t.Error(k.l.Last(), len(k.given))
	}
}

func TestP10_3Synced(t *testing.T) {
	k := keep(t, api.MaxRoom)
	k.open(false)
	if e := k.l.Sync(); e != api.OK || k.l.Synced() != 0 {
		t.Errorf("%d, %d", e, k.l.Synced())
	}
	for i := range 40 {
		k.append(times("x", 1000*i))
		if i%3 == 0 {
			k.sync()
			k.sync()
		}
		if i%10 == 9 {
			k.cutTo(i - 1)
		}
		// What Synced tells, it tells rightly: no crash takes it.
		for choice := range 4 {
			k.twin().crash(choice, choice)
		}
	}
}

func TestP10_3AStoppedSyncLeavesWhatWasSafe(t *testing.T) {
	for steps := range 6 {
		k := keep(t, api.MaxRoom)
		k.open(false)
		k.append("a")
		k.sync()
		k.append(times("b", 17000))
		k.append("c")
		must(t, "Stop", k.d.Stop(steps))
		ok := k.sync()
		if !ok && k.l.Synced() == 3 || ok && k.l.Synced() != 3 || k.l.Last() != 3 {
			t.Errorf("%d steps: %v, %d", steps, ok, k.l.Synced())
		}
		for choice := range 20 {
			other := k.twin()
			other.crash(choice, choice, choice)
		}
	}
}

func TestP10_4NumbersThatMayBeCut(t *testing.T) {
	d := laid(t, api.MaxRoom)
	l, _ := opened(t, d)
	for _, seq := range []int{-1, 1, 2, math.MinInt, math.MaxInt} {
		if e := l.Cut(seq); e != api.ErrWalCut {
			t.Errorf("Cut(%d): %d", seq, e)
		}
	}
	must(t, "Cut(0)", l.Cut(0))
	put(t, l, 1, "a", "b", "c")
	for _, seq := range []int{-1, 4, 5, math.MinInt, math.MaxInt} {
		if e := l.Cut(seq); e != api.ErrWalCut || l.First() != 1 || l.Last() != 3 {
			t.Errorf("Cut(%d): %d", seq, e)
		}
	}
	for _, seq := range []int{0, 3, 0, 1, 2, 3} {
		if e := l.Cut(seq); e != api.OK || l.Last() != 3 {
			t.Errorf("Cut(%d): %d", seq, e)
		}
	}
	if e := l.Cut(4); e != api.ErrWalCut {
		t.Errorf("Cut(4): %d", e)
	}
	put(t, l, 4, "d")
	must(t, "Cut(4)", l.Cut(4))
}

func TestP10_4EachCutOfALog(t *testing.T) {
	for seq := range 51 {
		k := keep(t, api.MaxRoom)
		k.open(false)
		for range 50 {
			k.append(times("x", 2000))
		}
		used := k.d.Used()
		k.cutTo(seq)
		k.now()
		// What is kept of the cut ones stands in one segment.
		if gone := k.l.First() - 1; gone > seq || gone < seq-10 || used-k.d.Used() < 2000*gone {
			t.Errorf("Cut(%d): First %d, %d bytes less", seq, k.l.First(), used-k.d.Used())
		}
		for choice := range 12 {
			k.twin().crash(choice)
		}
		k.open(false)
		if k.l.Last() != 50 {
			t.Errorf("Cut(%d): Last %d", seq, k.l.Last())
		}
		k.append("on")
		k.sync()
		k.cutTo(51)
		k.sync()
		for choice := range 3 {
			other := k.twin()
			other.crash(choice)
			other.append("on")
			if other.l.Last() != 52 {
				t.Errorf("Cut(%d): Last %d", seq, other.l.Last())
			}
		}
	}
}

func TestP10_4ALogOfWhichAllIsCutIsSmall(t *testing.T) {
	for _, n := range []int{0, 1, 100, 16000, 16384, 16385, 65536} {
		k := keep(t, api.MaxRoom)
		k.open(false)
		for i := range 20 {
			k.append(times("x", n))
			if i%6 == 5 {
				k.cutTo(k.l.Last())
				k.sync()
				k.small()
				k.crash()
				k.small()
			}
		}
		k.cutTo(k.l.Last())
		k.cutTo(k.l.Last())
		k.sync()
		if k.small(); k.l.First() != 21 || k.d.Used() > 16484+n {
			t.Errorf("records of %d bytes: First %d, used %d", n, k.l.First(), k.d.Used())
		}
	}
}

// A crash brings back what was cut, but not behind a Sync.
func TestP10_4CutsAreSafeOnceTheyAreSynced(t *testing.T) {
	for choice := range 12 {
		k := keep(t, api.MaxRoom)
		k.open(false)
		for range 60 {
			k.append(times("x", 2000))
		}
		k.sync()
		k.cutTo(60)
		k.crash(choice)
		k.cutTo(60)
		k.sync()
		k.crash(0)
		if k.l.First() != 61 || k.l.Last() != 60 {
			t.Errorf("%d: %d to %d", choice, k.l.First(), k.l.Last())
		}
		k.small()
	}
}

// A few records that are not safe are cut: a crash must not keep the first of them and lose the last.
func TestP10_4WhatIsLeftOfTheCutOnesAreTheLast(t *testing.T) {
	for cut := 1; cut < 5; cut++ {
		for choice := range 100 {
			k := keep(t, api.MaxRoom)
			k.open(false)
			for _, data := range []string{"a", "bb", "ccc", "dddd"} {
				k.append(data)
			}
			k.cutTo(cut)
			k.crash(choice%4, choice)
		}
	}
}

func TestP10_4ACutOfAFullDiskFreesIt(t *testing.T) {
	for _, room := range []int{1000, 30000, 100000} {
		k := keep(t, room)
		k.open(false)
		for range 5 {
			for k.append(times("x", 300)) {
			}
			for k.append("") {
			}
			if !k.cutTo(k.l.Last()) || k.d.Used() > 100 {
				t.Errorf("room %d: used %d", room, k.d.Used())
			}
			k.now()
		}
	}
}

// A script that goes through new segments, cuts of some and of all, and other opens.
func script(k *keeper) {
	big := times("B", 16400)
	steps := []func() bool{
		func() bool { return k.open(false) },
		func() bool { return k.append("a") },
		func() bool { return k.append("") },
		func() bool { return k.sync() },
		func() bool { return k.append(big) },
		func() bool { return k.append("c") },
		func() bool { return k.append(big) },
		func() bool { return k.append("d") },
		func() bool { return k.cutTo(4) },
		func() bool { return k.append("e") },
		func() bool { return k.cutTo(k.l.Last()) },
		func() bool { return k.append("f") },
		func() bool { return k.sync() },
		func() bool { return k.append("g") },
		func() bool { return k.cutTo(k.l.Last()) },
		func() bool { return k.open(false) },
		func() bool { return k.append("h") },
		func() bool { return k.append(big) },
		func() bool { return k.append("i") },
		func() bool { return k.cutTo(1) },
		func() bool { return k.open(false) },
		func() bool { return k.cutTo(k.l.Last() - 1) },
	}
	for _, step := range steps {
		if !step() {
			return
		}
	}
}

func TestP10_5WhereverTheDiskStops(t *testing.T) {
	for steps := 0; ; steps++ {
		k := keep(t, api.MaxRoom)
		must(t, "Stop", k.d.Stop(steps))
		script(k)
		ended := !k.d.Down()
		k.note = fmt.Sprintf("stop(%d)", steps)
		for names := range 5 {
			for _, bytes := range []int{0, 3, 17, 40, 1000, 16416, 16450, -1, -4, -18, -2000} {
				other := k.twin()
				other.d.Crash(names, bytes, bytes, bytes, bytes, bytes)
				other.add("crash(%d %d)", names, bytes)
				reopenings(other)
			}
		}
		if ended {
			break
		}
	}
}

// reopenings lets a disk that has crashed stop at each step of being opened, too.
func reopenings(k *keeper) {
	for stop := 0; ; stop++ {
		other := k.twin()
		must(k.t, "Stop", other.d.Stop(stop))
		other.add("stop(%d)", stop)
		crashed := other.open(true)
		ended := !other.d.Down()
		for names := range 3 {
			third := other.twin()
			third.crash(names, names*9)
			if last := third.l.Last(); crashed && last != other.l.Last() {
				third.fail("Last %d, and was %d", last, other.l.Last())
			}
			third.append("next")
			third.sync()
			last := third.l.Last()
			third.append("lost")
			third.crash(names, names*9, names*9)
			if n := third.l.Last(); n != last && n != last+1 {
				third.fail("Last %d, not %d", n, last)
			}
		}
		if ended {
			return
		}
	}
}

func sizes(x *rand.Rand) int {
	switch x.IntN(12) {
	case 0:
		return 16384 - 40 + x.IntN(80)
	case 1:
		return x.IntN(20000)
	case 2, 3, 4:
		return x.IntN(3000)
	}
	return x.IntN(40)
}

func data(x *rand.Rand) string {
	n := sizes(x)
	if x.IntN(3) == 0 {
		return times("\x00", n)
	}
	b := make([]byte, n)
	for i := range b {
		b[i] = byte(x.Uint32() >> 7)
	}
	return string(b)
}

func choices(x *rand.Rand) []int {
	out := make([]int, x.IntN(8))
	for i := range out {
		switch x.IntN(5) {
		case 0:
			out[i] = x.IntN(5)
		case 1:
			out[i] = -1 - x.IntN(60)
		case 2:
			out[i] = x.IntN(60)
		case 3:
			out[i] = int(x.Uint64())
		}
	}
	return out
}

// mix does one call of many kinds.
func mix(k *keeper, x *rand.Rand) {
	switch x.IntN(24) {
	case 0:
		k.cutTo(k.l.Last())
	case 1:
		k.cutTo(x.IntN(k.l.Last() + 1))
	case 2, 3, 4, 5:
		k.sync()
	case 6:
		k.open(false)
	case 7:
		must(k.t, "Stop", k.d.Stop(x.IntN(9)))
	case 8:
		rise(k, x)
	case 9:
		k.now()
	case 10:
		k.cutTo(k.l.Last())
		k.sync()
	default:
		k.append(data(x))
	}
}

// rise crashes a disk, and perhaps stops it again and again while it is opened.
func rise(k *keeper, x *rand.Rand) {
	for {
		c := choices(x)
		k.add("crash%v", c)
		must(k.t, "Crash", k.d.Crash(c...))
		if x.IntN(2) == 0 {
			n := x.IntN(7)
			k.add("stop(%d)", n)
			must(k.t, "Stop", k.d.Stop(n))
		}
		if k.open(true) {
			return
		}
	}
}

func TestP10_5MixedCallsStopsAndCrashes(t *testing.T) {
	for seed := range uint64(400) {
		x := mixed(seed)
		room := []int{1000, 5000, 20000, 60000, 300000, api.MaxRoom}[seed%6]
		k := keep(t, room)
		k.note = fmt.Sprintf("seed %d, room %d", seed, room)
		k.open(false)
		for range 120 {
			if k.d.Down() {
				rise(k, x)
				continue
			}
			mix(k, x)
			if x.IntN(4) == 0 {
				other := k.twin()
				rise(other, x)
				rise(other, x)
			}
		}
	}
}

func TestP10_5NumbersGoOn(t *testing.T) {
	k := keep(t, api.MaxRoom)
	k.open(false)
	for i := range 200 {
		k.append(fmt.Sprint(i))
		switch i % 4 {
		case 0:
			k.cutTo(k.l.Last())
		case 1:
			k.sync()
		case 2:
			k.open(false)
		case 3:
			k.sync()
			k.cutTo(k.l.Last())
			k.crash(i/4, i)
		}
		if k.l.Last() != i+1 {
			t.Fatalf("%d, not %d", k.l.Last(), i+1)
		}
	}
}

func TestR1TheFirstOfSeveralErrors(t *testing.T) {
	d := laid(t, api.MaxRoom)
	l, _ := opened(t, d)
	put(t, l, 1, "a")
	must(t, "Stop", d.Stop(0))
	if n, e := l.Append(times("x", 65537)); n != 0 || e != api.ErrLong {
		t.Errorf("Append: %d, %d", n, e)
	}
	if e := l.Cut(2); e != api.ErrWalCut {
		t.Errorf("Cut: %d", e)
	}
	if n, e := l.Append("b"); n != 0 || e != api.ErrDiskDown {
		t.Errorf("Append: %d, %d", n, e)
	}
}

// Nothing is promised of files that others changed, and of a log whose disk has crashed, but that calls end. All the
// same: what is told are the log's records, one number behind the other.
func TestR1FilesThatOthersChanged(t *testing.T) {
	x := mixed(1)
	d := laid(t, api.MaxRoom)
	l, _ := opened(t, d)
	given := []string{"a", times("b", 17000), "c", times("d", 17000), "e"}
	put(t, l, 1, given...)
	must(t, "Sync", l.Sync())
	names := append(logs(d), "log.1", "log.2", "log.7", "log.", "log.x", "log.new", "log.0", "log.01", "log.-1",
		"log.9223372036854775807", "log.9223372036854775808", "log.99999999999999999999999999")
	for range 800 {
		other := d.Clone()
		for range 1 + x.IntN(4) {
			name := names[x.IntN(len(names))]
			switch x.IntN(4) {
			case 0:
				other.Remove(name)
			case 1:
				other.Rename(name, names[x.IntN(len(names))])
			case 2:
				other.Create(name)
			default:
				b := []byte(files(d)[logs(d)[0]])
				b[x.IntN(len(b))] ^= 1 << x.IntN(8)
				other.Append(name, b[:1+x.IntN(len(b))])
			}
		}
		l, r, e := wal.Open(other)
		if e != api.OK {
			t.Fatalf("Open: %d", e)
		}
		for i, x := range r {
			if x.Seq != r[0].Seq+i || x.Seq > 5 || x.Data != given[x.Seq-1] {
				t.Fatalf("Open: %s", said(r))
			}
		}
		for range 3 {
			l.Append(times("x", 17000))
			l.Cut(l.Last() - 1)
			l.Sync()
		}
		other.Crash(x.IntN(9))
		l.Append("old")
		l.Cut(l.Last())
		l.Sync()
		wal.Open(other)
	}
}

func TestR1EachByteOfAFileTurned(t *testing.T) {
	d := laid(t, api.MaxRoom)
	l, _ := opened(t, d)
	put(t, l, 1, "one", "", "three", "four")
	name := logs(d)[0]
	for at := range files(d)[name] {
		other := d.Clone()
		b := []byte(files(d)[name])
		b[at] ^= 1 << (at % 8)
		must(t, "Remove", other.Remove(name))
		must(t, "Create", other.Create(name))
		must(t, "Append", other.Append(name, b))
		if _, r := opened(t, other); len(r) > 3 || !strings.HasPrefix("1=one 2= 3=three", said(r)) {
			t.Errorf("byte %d: %s", at, said(r))
		}
	}
}

func TestR2ListsAreNewMemory(t *testing.T) {
	d := laid(t, api.MaxRoom)
	l, _ := opened(t, d)
	put(t, l, 1, "a", "b", times("c", 20000), "d")
	l, r := opened(t, d)
	want := slices.Clone(r)
	for i := range r {
		r[i] = api.Record{Seq: 9, Data: "9"}
	}
	if l.First() != 1 || l.Last() != 4 {
		t.Errorf("%d, %d", l.First(), l.Last())
	}
	if _, r := opened(t, d); !slices.Equal(r, want) {
		t.Error(said(r))
	}
}

func TestR2LogsKnowNothingOfOneAnother(t *testing.T) {
	one, other := laid(t, 5000), laid(t, 5000)
	l, _ := opened(t, one)
	m, _ := opened(t, other)
	put(t, l, 1, "a", "b")
	put(t, m, 1, "c")
	must(t, "Sync", l.Sync())
	must(t, "Cut", m.Cut(1))
	if l.Synced() != 2 || l.First() != 1 || l.Last() != 2 || m.Last() != 1 {
		t.Errorf("%d, %d, %d; %d", l.Synced(), l.First(), l.Last(), m.Last())
	}
	if _, r := opened(t, one); said(r) != "1=a 2=b" {
		t.Error(said(r))
	}
}

// The same calls leave the same bytes.
func TestR2NothingElseCounts(t *testing.T) {
	run := func() *keeper {
		x := mixed(77)
		k := keep(t, 100000)
		k.open(false)
		for range 150 {
			if k.d.Down() {
				rise(k, x)
				continue
			}
			mix(k, x)
		}
		return k
	}
	a, b := run(), run()
	if a.note != b.note || !maps.Equal(files(a.d), files(b.d)) {
		t.Error("two runs differ")
	}
}

func TestR3NilDisksAndLogs(t *testing.T) {
	if l, r, e := wal.Open(nil); l != nil || len(r) != 0 || e != api.ErrNil {
		t.Errorf("Open: %v, %v, %d", l, r, e)
	}
	var l *wal.Log
	for _, data := range []string{"", "a", times("x", 65537)} {
		if n, e := l.Append(data); n != 0 || e != api.ErrNil {
			t.Errorf("Append: %d, %d", n, e)
		}
	}
	for _, seq := range []int{-1, 0, 1} {
		if e := l.Cut(seq); e != api.ErrNil {
			t.Errorf("Cut(%d): %d", seq, e)
		}
	}
	if e := l.Sync(); e != api.ErrNil {
		t.Errorf("Sync: %d", e)
	}
	if l.Synced() != 0 || l.Last() != 0 || l.First() != 0 {
		t.Errorf("%d, %d, %d", l.Synced(), l.Last(), l.First())
	}
}
