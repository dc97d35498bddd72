package disk_test

import (
	"bytes"
	"fmt"
	"maps"
	"math"
	"math/rand/v2"
	"slices"
	"strings"
	"testing"

	"haversack/api"
	"haversack/disk"
)

// mixed tells numbers that look mixed and are the same in each run.
func mixed(seed uint64) *rand.Rand { return rand.New(rand.NewPCG(seed, 9)) }

func times(s string, n int) string { return strings.Repeat(s, n) }

func laid(t *testing.T, room int) *disk.Disk {
	t.Helper()
	d, e := disk.New(room)
	if d == nil || e != api.OK {
		t.Fatalf("New(%d): %v, %d", room, d, e)
	}
	return d
}

// do runs calls that must all be OK.
func do(t *testing.T, d *disk.Disk, calls ...call) {
	t.Helper()
	for i, c := range calls {
		if e := c.on(d); e != api.OK {
			t.Fatalf("call %d, %v: %d", i, c, e)
		}
	}
}

// A call is one call that answers an Errno alone.
type call struct {
	kind, name, more string
	numbers          []int
}

func create(name string) call    { return call{kind: "create", name: name} }
func add(name, data string) call { return call{kind: "append", name: name, more: data} }
func sync(name string) call      { return call{kind: "sync", name: name} }
func rename(from, to string) call {
	return call{kind: "rename", name: from, more: to}
}
func remove(name string) call { return call{kind: "remove", name: name} }
func syncDir() call           { return call{kind: "syncdir"} }
func stop(n int) call         { return call{kind: "stop", numbers: []int{n}} }
func crash(c ...int) call     { return call{kind: "crash", numbers: c} }

func (c call) String() string {
	return fmt.Sprintf("%s(%.20q, %.20q, %v)", c.kind, c.name, c.more, c.numbers)
}

// A store is what the disk and the slow reading of the words both are.
type store interface {
	Create(string) api.Errno
	Append(string, []byte) api.Errno
	Sync(string) api.Errno
	Rename(string, string) api.Errno
	Remove(string) api.Errno
	SyncDir() api.Errno
	Read(string) ([]byte, api.Errno)
	Names() []string
	Used() int
	Steps() int
	Stop(int) api.Errno
	Down() bool
	Crash(...int) api.Errno
}

func (c call) on(s store) api.Errno {
	switch c.kind {
	case "create":
		return s.Create(c.name)
	case "append":
		return s.Append(c.name, []byte(c.more))
	case "sync":
		return s.Sync(c.name)
	case "rename":
		return s.Rename(c.name, c.more)
	case "remove":
		return s.Remove(c.name)
	case "syncdir":
		return s.SyncDir()
	case "stop":
		return s.Stop(c.numbers[0])
	case "crash":
		return s.Crash(c.numbers...)
	}
	panic(c.kind)
}

// seen is all that a store tells, some names that it may not have among the questions.
func seen(s store) string {
	var out strings.Builder
	fmt.Fprint(&out, "down ", s.Down(), " steps ", s.Steps(), " used ", s.Used())
	for _, name := range append(slices.Clone(s.Names()), "a", "nowhere", "A") {
		b, e := s.Read(name)
		fmt.Fprintf(&out, " %s %q %d", name, b, e)
	}
	return out.String()
}

// files is what stands on a store, as "name=bytes" by rising names.
func files(s store) string {
	var out []string
	for _, name := range s.Names() {
		b, e := s.Read(name)
		if e != api.OK {
			return fmt.Sprintf("Read(%s): %d", name, e)
		}
		out = append(out, name+"="+string(b))
	}
	return strings.Join(out, " ")
}

// A slow disk is the chapter read word by word: it keeps all names that there were since they were safe last.
type slow struct {
	room, steps int
	stopAt      int // how many steps there are when it stops, below 0 if it does not
	files       []slowFile
	history     []map[string]int // the safe names first, the names that there are now last
}

type slowFile struct {
	bytes string
	safe  int
}

func newSlow(room int) *slow {
	return &slow{room: room, stopAt: -1, history: []map[string]int{{}}}
}

func (s *slow) now() map[string]int { return s.history[len(s.history)-1] }

func (s *slow) Down() bool { return s.stopAt >= 0 && s.steps >= s.stopAt }

func (s *slow) Steps() int { return s.steps }

func (s *slow) has(name string) bool { _, ok := s.now()[name]; return ok }

func slowName(name string) bool {
	return len(name) >= 1 && len(name) <= 32 && strings.Trim(name, "abcdefghijklmnopqrstuvwxyz0123456789.-") == "" &&
		!strings.ContainsFunc(name, func(r rune) bool { return !strings.ContainsRune("abcdefghijklmnopqrstuvwxyz0123456789.-", r) })
}

func (s *slow) step() api.Errno { s.steps++; return api.OK }

func (s *slow) become(names map[string]int) api.Errno {
	s.history = append(s.history, names)
	return s.step()
}

func (s *slow) Create(name string) api.Errno {
	switch {
	case s.Down():
		return api.ErrDiskDown
	case !slowName(name):
		return api.ErrDiskName
	case s.has(name):
		return api.ErrDiskThere
	case len(s.now()) >= 64:
		return api.ErrDiskMany
	}
	s.files = append(s.files, slowFile{})
	names := maps.Clone(s.now())
	names[name] = len(s.files) - 1
	return s.become(names)
}

func (s *slow) Append(name string, b []byte) api.Errno {
	switch {
	case s.Down():
		return api.ErrDiskDown
	case !s.has(name):
		return api.ErrDiskNone
	case s.Used()+len(b) > s.room:
		return api.ErrDiskFull
	}
	s.files[s.now()[name]].bytes += string(b)
	return s.step()
}

func (s *slow) Sync(name string) api.Errno {
	switch {
	case s.Down():
		return api.ErrDiskDown
	case !s.has(name):
		return api.ErrDiskNone
	}
	f := &s.files[s.now()[name]]
	f.safe = len(f.bytes)
	return s.step()
}

func (s *slow) Rename(from, to string) api.Errno {
	switch {
	case s.Down():
		return api.ErrDiskDown
	case !s.has(from):
		return api.ErrDiskNone
	case !slowName(to):
		return api.ErrDiskName
	}
	names := map[string]int{}
	for name, f := range s.now() {
		if name != from && name != to {
			names[name] = f
		}
	}
	names[to] = s.now()[from]
	return s.become(names)
}

func (s *slow) Remove(name string) api.Errno {
	switch {
	case s.Down():
		return api.ErrDiskDown
	case !s.has(name):
		return api.ErrDiskNone
	}
	names := maps.Clone(s.now())
	delete(names, name)
	return s.become(names)
}

func (s *slow) SyncDir() api.Errno {
	if s.Down() {
		return api.ErrDiskDown
	}
	s.history = []map[string]int{s.now()}
	return s.step()
}

func (s *slow) Read(name string) ([]byte, api.Errno) {
	switch {
	case s.Down():
		return nil, api.ErrDiskDown
	case !s.has(name):
		return nil, api.ErrDiskNone
	}
	return []byte(s.files[s.now()[name]].bytes), api.OK
}

func (s *slow) Names() []string {
	var out []string
	if !s.Down() {
		for name := range s.now() {
			out = append(out, name)
		}
	}
	slices.Sort(out)
	return out
}

func (s *slow) Used() int {
	used := 0
	if !s.Down() {
		for _, f := range s.now() {
			used += len(s.files[f].bytes)
		}
	}
	return used
}

func (s *slow) Stop(steps int) api.Errno {
	switch {
	case s.Down():
		return api.ErrDiskDown
	case steps < 0:
		return api.ErrArg
	}
	s.stopAt = s.steps + min(steps, math.MaxInt32)
	return api.OK
}

// slowSaid goes round, as often as the choice says: small choices alone.
func slowSaid(choice, n int) int {
	if choice < 0 {
		choice = -(choice + 1)
	}
	at := 0
	for range choice {
		at++
		if at == n+1 {
			at = 0
		}
	}
	return at
}

func (s *slow) Crash(choices ...int) api.Errno {
	next := func() int {
		if len(choices) == 0 {
			return 0
		}
		c := choices[0]
		choices = choices[1:]
		return c
	}
	s.stopAt = -1
	s.history = []map[string]int{s.history[slowSaid(next(), len(s.history)-1)]}
	for _, name := range s.Names() {
		f, c := &s.files[s.now()[name]], next()
		kept := f.bytes[f.safe : f.safe+slowSaid(c, len(f.bytes)-f.safe)]
		if c < 0 {
			kept = times("\x00", len(kept))
		}
		f.bytes = f.bytes[:f.safe] + kept
		f.safe = len(f.bytes)
	}
	return api.OK
}

func (s *slow) clone() *slow {
	other := *s
	other.files = slices.Clone(s.files)
	other.history = slices.Clone(s.history)
	return &other
}

// both runs calls on a disk and on a slow one, and holds what they tell against each other behind each of them.
func both(t *testing.T, d *disk.Disk, s *slow, calls ...call) {
	t.Helper()
	for i, c := range calls {
		if got, want := c.on(d), c.on(s); got != want {
			t.Fatalf("%v: call %d answers %d, not %d", calls, i, got, want)
		}
		if got, want := seen(d), seen(s); got != want {
			t.Fatalf("%v: behind call %d:\n%s\nnot\n%s", calls, i, got, want)
		}
	}
}

func TestExamples(t *testing.T) {
	if d, e := disk.New(0); d != nil || e != api.ErrArg {
		t.Errorf("New(0): %v, %d", d, e)
	}
	d := laid(t, 4)
	answers := []struct {
		c    call
		want api.Errno
	}{
		{create("a"), api.OK}, {create("a"), api.ErrDiskThere}, {create("A"), api.ErrDiskName}, {add("b", "x"), api.ErrDiskNone},
		{add("a", "\x01\x02\x03"), api.OK}, {add("a", "\x04\x05"), api.ErrDiskFull},
	}
	for _, a := range answers {
		if e := a.c.on(d); e != a.want {
			t.Errorf("%v: %d, not %d", a.c, e, a.want)
		}
	}
	if d.Used() != 3 || d.Steps() != 2 {
		t.Errorf("Used %d, Steps %d", d.Used(), d.Steps())
	}
	do(t, d, sync("a"), add("a", "\x09"))
	other := d.Clone()
	do(t, other, crash())
	if len(other.Names()) != 0 {
		t.Errorf("a name that was not safe: %v", other.Names())
	}
	do(t, d, syncDir())
	for choice, want := range map[int]string{1: "\x01\x02\x03\x09", -2: "\x01\x02\x03\x00", 0: "\x01\x02\x03"} {
		other := d.Clone()
		do(t, other, crash(0, choice))
		if b, e := other.Read("a"); string(b) != want || e != api.OK {
			t.Errorf("Crash(0, %d): % x, %d", choice, b, e)
		}
	}
	for choice, want := range map[int]string{1: "a b", 2: "b c", 3: "a"} {
		d := laid(t, 4)
		do(t, d, create("a"), syncDir(), create("b"), rename("a", "c"), crash(choice))
		if got := strings.Join(d.Names(), " "); got != want {
			t.Errorf("Crash(%d): %s, not %s", choice, got, want)
		}
	}
	d = laid(t, 4)
	do(t, d, stop(1), create("x"))
	if e := d.Create("y"); e != api.ErrDiskDown || !d.Down() || len(d.Names()) != 0 {
		t.Errorf("stopped: %d, %v, %v", e, d.Down(), d.Names())
	}
	do(t, d, crash(1))
	if got := d.Names(); !slices.Equal(got, []string{"x"}) {
		t.Errorf("behind the crash: %v", got)
	}
}

func TestP9_1RoomsThatMayBe(t *testing.T) {
	for _, room := range []int{1, 2, 4096, api.MaxRoom - 1, api.MaxRoom} {
		d := laid(t, room)
		if got := seen(d); got != seen(newSlow(room)) {
			t.Errorf("New(%d): %s", room, got)
		}
		if len(d.Names()) != 0 || d.Used() != 0 || d.Steps() != 0 || d.Down() {
			t.Errorf("New(%d) is not new", room)
		}
	}
	for _, room := range []int{0, -1, math.MinInt, api.MaxRoom + 1, math.MaxInt} {
		if d, e := disk.New(room); d != nil || e != api.ErrArg {
			t.Errorf("New(%d): %v, %d", room, d, e)
		}
	}
}

func TestP9_2NamesByteByByte(t *testing.T) {
	for c := range 256 {
		one := string([]byte{byte(c)})
		want := api.ErrDiskName
		if strings.Contains("abcdefghijklmnopqrstuvwxyz0123456789.-", one) {
			want = api.OK
		}
		for _, name := range []string{one, one + "a", "a" + one, "ab" + one + "c", times("x", 31) + one} {
			if e := laid(t, 1).Create(name); e != want {
				t.Errorf("Create(%q): %d, not %d", name, e, want)
			}
		}
	}
	for name, want := range map[string]api.Errno{
		"":               api.ErrDiskName,
		times("a", 32):   api.OK,
		times("a", 33):   api.ErrDiskName,
		times("a", 1000): api.ErrDiskName,
		".":              api.OK,
		"..":             api.OK,
		"-":              api.OK,
		"é":              api.ErrDiskName,
		"a/b":            api.ErrDiskName,
		"log.1":          api.OK,
	} {
		if e := laid(t, 1).Create(name); e != want {
			t.Errorf("Create(%.40q): %d, not %d", name, e, want)
		}
	}
}

// crowd creates files f1, f2 and so on, till there are n.
func crowd(t *testing.T, d *disk.Disk, n int) {
	t.Helper()
	for i := len(d.Names()) + 1; i <= n; i++ {
		do(t, d, create(fmt.Sprint("f", i)))
	}
}

func TestP9_2NoMoreThan64Files(t *testing.T) {
	d := laid(t, 100)
	crowd(t, d, 64)
	if len(d.Names()) != 64 || d.Steps() != 64 {
		t.Fatalf("%d names, %d steps", len(d.Names()), d.Steps())
	}
	for name, want := range map[string]api.Errno{"x": api.ErrDiskMany, "f1": api.ErrDiskThere, "F": api.ErrDiskName, "": api.ErrDiskName} {
		if e := d.Create(name); e != want {
			t.Errorf("Create(%q) on 64 files: %d, not %d", name, e, want)
		}
	}
	do(t, d, rename("f1", "x"), remove("x"), create("y"))
	if e := d.Create("z"); e != api.ErrDiskMany {
		t.Errorf("the 65th: %d", e)
	}
	do(t, d, rename("f2", "f3"), create("z"))
	if e := d.Create("zz"); e != api.ErrDiskMany || len(d.Names()) != 64 {
		t.Errorf("the 65th again: %d, %d names", e, len(d.Names()))
	}
}

func TestP9_2FilesWithoutNamesAreNotCounted(t *testing.T) {
	d := laid(t, 100)
	crowd(t, d, 64)
	do(t, d, syncDir())
	for i := 1; i <= 64; i++ {
		do(t, d, remove(fmt.Sprint("f", i)))
	}
	crowd(t, d, 64)
	do(t, d, crash(0))
	if e := d.Create("x"); e != api.ErrDiskMany || len(d.Names()) != 64 {
		t.Errorf("behind the crash: %d, %d names", e, len(d.Names()))
	}
}

func TestP9_2ANewFileHasNoBytes(t *testing.T) {
	d := laid(t, 100)
	do(t, d, create("a"), add("a", "one"), sync("a"), syncDir(), remove("a"), create("a"))
	if b, e := d.Read("a"); len(b) != 0 || e != api.OK {
		t.Errorf("created anew: %q, %d", b, e)
	}
	do(t, d, add("a", "two"), sync("a"))
	for k, want := range []string{"a=one", "", "a=two"} {
		other := d.Clone()
		do(t, other, crash(k))
		if got := files(other); got != want {
			t.Errorf("Crash(%d): %s, not %s", k, got, want)
		}
	}
}

func TestP9_3BytesStandBehindOneAnother(t *testing.T) {
	d := laid(t, 10)
	do(t, d, create("a"), create("b"), add("a", "xy"), add("b", "\x00\xff"), add("a", ""), add("a", "z"))
	if got := files(d); got != "a=xyz b=\x00\xff" || d.Used() != 5 || d.Steps() != 6 {
		t.Errorf("%q, used %d, steps %d", got, d.Used(), d.Steps())
	}
	if e := d.Append("a", nil); e != api.OK || d.Steps() != 7 {
		t.Errorf("nil: %d, steps %d", e, d.Steps())
	}
}

func TestP9_3NoMoreThanTheRoom(t *testing.T) {
	d := laid(t, 5)
	do(t, d, create("a"), create("b"), add("a", "123"))
	for _, c := range []struct {
		name, data string
		want       api.Errno
	}{
		{"b", "456", api.ErrDiskFull}, {"b", "45", api.OK}, {"b", "6", api.ErrDiskFull}, {"a", "6", api.ErrDiskFull}, {"a", "", api.OK},
		{"c", "", api.ErrDiskNone}, {"c", "123456", api.ErrDiskNone}, {"", "", api.ErrDiskNone}, {"A", "123456", api.ErrDiskNone},
	} {
		if e := d.Append(c.name, []byte(c.data)); e != c.want {
			t.Errorf("Append(%q, %q): %d, not %d", c.name, c.data, e, c.want)
		}
	}
	if got := files(d); got != "a=123 b=45" {
		t.Error(got)
	}
	do(t, d, remove("a"), add("b", "678"))
	if e := d.Append("b", []byte("9")); e != api.ErrDiskFull || d.Used() != 5 {
		t.Errorf("%d, used %d", e, d.Used())
	}
	d = laid(t, api.MaxRoom)
	do(t, d, create("a"), add("a", times("x", api.MaxRoom)))
	if e := d.Append("a", []byte("x")); e != api.ErrDiskFull || d.Used() != api.MaxRoom {
		t.Errorf("the greatest room: %d, used %d", e, d.Used())
	}
}

// A file that was removed may come back beside bytes that took its room.
func TestP9_3ADiskAboveItsRoomTakesNothing(t *testing.T) {
	d := laid(t, 4)
	do(t, d, create("a"), create("b"), add("a", "1234"), sync("a"), syncDir(), remove("a"), add("b", "5678"), sync("b"), crash(0))
	if got := files(d); got != "a=1234 b=5678" || d.Used() != 8 {
		t.Fatalf("%s, used %d", got, d.Used())
	}
	if e := d.Append("a", nil); e != api.ErrDiskFull {
		t.Errorf("no bytes: %d", e)
	}
	do(t, d, remove("b"), add("a", ""))
	if e := d.Append("a", []byte("x")); e != api.ErrDiskFull {
		t.Errorf("one byte: %d", e)
	}
}

func TestP9_4BytesThatAreThereAreSafe(t *testing.T) {
	d := laid(t, 100)
	do(t, d, create("a"), create("b"), syncDir(), add("a", "12"), add("b", "12"), sync("a"), add("a", "34"))
	other := d.Clone()
	do(t, other, crash())
	if got := files(other); got != "a=12 b=" {
		t.Error(got)
	}
	do(t, d, sync("a"), sync("a"), crash())
	if got := files(d); got != "a=1234 b=" {
		t.Error(got)
	}
	for _, name := range []string{"c", "", "A", times("a", 40)} {
		if e := d.Sync(name); e != api.ErrDiskNone {
			t.Errorf("Sync(%q): %d", name, e)
		}
	}
}

func TestP9_4ASyncedFileNeedNotHaveASafeName(t *testing.T) {
	d := laid(t, 100)
	do(t, d, create("a"), add("a", "1"), sync("a"))
	other := d.Clone()
	do(t, other, crash(0))
	if got := files(other); got != "" {
		t.Error(got)
	}
	do(t, d, crash(1))
	if got := files(d); got != "a=1" {
		t.Error(got)
	}
}

func TestP9_5Rename(t *testing.T) {
	d := laid(t, 100)
	do(t, d, create("a"), create("b"), create("c"), add("a", "1"), add("b", "22"), add("c", "333"))
	for _, c := range []struct {
		from, to string
		want     api.Errno
	}{
		{"x", "y", api.ErrDiskNone}, {"x", "Y", api.ErrDiskNone}, {"", "", api.ErrDiskNone}, {"x", "x", api.ErrDiskNone},
		{"A", "a", api.ErrDiskNone}, {"x", "a", api.ErrDiskNone},
		{"a", "", api.ErrDiskName}, {"a", "A", api.ErrDiskName}, {"a", times("a", 33), api.ErrDiskName},
	} {
		if e := d.Rename(c.from, c.to); e != c.want {
			t.Errorf("Rename(%q, %q): %d, not %d", c.from, c.to, e, c.want)
		}
	}
	if got := files(d); got != "a=1 b=22 c=333" || d.Steps() != 6 {
		t.Errorf("%s, %d steps", got, d.Steps())
	}
	do(t, d, rename("a", times("z", 32)), rename("b", "c"))
	if got := files(d); got != "c=22 "+times("z", 32)+"=1" || d.Used() != 3 {
		t.Errorf("%s, used %d", got, d.Used())
	}
	do(t, d, add("c", "4"), create("b"))
	if got := files(d); got != "b= c=224 "+times("z", 32)+"=1" {
		t.Error(got)
	}
	if e := d.Append("a", nil); e != api.ErrDiskNone {
		t.Errorf("the old name: %d", e)
	}
}

func TestP9_5RenameToTheSameNameIsAChange(t *testing.T) {
	d := laid(t, 100)
	do(t, d, create("a"), add("a", "1"), syncDir(), rename("a", "a"), create("b"))
	if got := files(d); got != "a=1 b=" || d.Steps() != 5 {
		t.Errorf("%s, %d steps", got, d.Steps())
	}
	for k, want := range []string{"a=1", "a=1", "a=1 b=", "a=1"} {
		other := d.Clone()
		do(t, other, crash(k, 1))
		if got := files(other); got != want {
			t.Errorf("Crash(%d): %s, not %s", k, got, want)
		}
	}
}

func TestP9_5Remove(t *testing.T) {
	d := laid(t, 100)
	do(t, d, create("a"), create("b"), add("a", "1"), remove("a"))
	if got := files(d); got != "b=" || d.Used() != 0 {
		t.Errorf("%s, used %d", got, d.Used())
	}
	for _, name := range []string{"a", "", "A", "c"} {
		if e := d.Remove(name); e != api.ErrDiskNone {
			t.Errorf("Remove(%q): %d", name, e)
		}
	}
	if d.Steps() != 4 {
		t.Errorf("%d steps", d.Steps())
	}
}

func TestP9_5SyncDirMakesNamesSafeAndNoBytes(t *testing.T) {
	d := laid(t, 100)
	do(t, d, create("a"), add("a", "1"), create("b"), remove("b"), rename("a", "c"), syncDir())
	for k := range 4 {
		other := d.Clone()
		do(t, other, crash(k))
		if got := files(other); got != "c=" {
			t.Errorf("Crash(%d): %s", k, got)
		}
	}
	do(t, d, syncDir(), syncDir())
	if d.Steps() != 8 {
		t.Errorf("%d steps", d.Steps())
	}
}

func TestP9_6NamesRiseByteByByte(t *testing.T) {
	d := laid(t, 100)
	names := []string{"b", "a", "a.", "a-", "a0", "aa", "0", ".", "-", "..", "z", "ab", times("z", 32), "z9"}
	for _, name := range names {
		do(t, d, create(name))
	}
	slices.Sort(names)
	if got := d.Names(); !slices.Equal(got, names) {
		t.Errorf("%v, not %v", got, names)
	}
}

func TestP9_6ReadOfNothing(t *testing.T) {
	d := laid(t, 100)
	do(t, d, create("a"))
	if b, e := d.Read("a"); len(b) != 0 || e != api.OK {
		t.Errorf("without bytes: %q, %d", b, e)
	}
	for _, name := range []string{"b", "", "A"} {
		if b, e := d.Read(name); len(b) != 0 || e != api.ErrDiskNone {
			t.Errorf("Read(%q): %q, %d", name, b, e)
		}
	}
}

func TestP9_7StepsAreWhatAnswersOK(t *testing.T) {
	d := laid(t, 4)
	steps := 0
	for _, c := range []call{
		create("a"), add("a", "12"), sync("a"), rename("a", "b"), syncDir(), create("c"), remove("c"), add("b", ""), rename("b", "b"),
	} {
		do(t, d, c)
		steps++
		if d.Steps() != steps {
			t.Errorf("behind %v: %d steps, not %d", c, d.Steps(), steps)
		}
	}
	for _, c := range []call{
		create("b"), create("B"), add("x", ""), add("b", "345"), sync("x"), rename("x", "y"), rename("b", "B"), remove("x"),
		stop(9), stop(-1), crash(), crash(1, 2, 3),
	} {
		c.on(d)
		d.Read("b")
		d.Names()
		d.Used()
		d.Down()
		d.Clone().Create("new")
		if d.Steps() != steps {
			t.Errorf("behind %v: %d steps, not %d", c, d.Steps(), steps)
		}
	}
}

func TestP9_7TheDiskStopsBehindSoManySteps(t *testing.T) {
	for n := range 6 {
		d := laid(t, 100)
		do(t, d, create("a"), syncDir(), stop(n))
		for i := range n {
			if d.Down() {
				t.Fatalf("Stop(%d): down behind %d", n, i)
			}
			d.Create("A")
			d.Append("x", nil)
			d.Read("a")
			do(t, d, add("a", "1"))
		}
		if !d.Down() || d.Append("a", nil) != api.ErrDiskDown || d.Steps() != 2+n {
			t.Errorf("Stop(%d): %v, %d steps", n, d.Down(), d.Steps())
		}
		do(t, d, crash(0, n))
		if got := files(d); got != "a="+times("1", n) {
			t.Errorf("Stop(%d): %s", n, got)
		}
	}
}

// each kind of step may be the last one, and is done in full.
func TestP9_7TheLastStepIsDone(t *testing.T) {
	for _, c := range []struct {
		last    call
		choices []int
		want    string
	}{
		{create("b"), []int{1, 1}, "a=12 b="},
		{add("a", "3"), []int{0, 2}, "a=123"},
		{sync("a"), nil, "a=12"},
		{rename("a", "c"), []int{1, 1}, "c=12"},
		{remove("a"), []int{1}, ""},
	} {
		d := laid(t, 100)
		do(t, d, create("a"), add("a", "1"), syncDir(), sync("a"), add("a", "2"), stop(1), c.last)
		if !d.Down() || d.Steps() != 6 {
			t.Errorf("%v: %v, %d steps", c.last, d.Down(), d.Steps())
		}
		do(t, d, crash(c.choices...))
		if got := files(d); got != c.want {
			t.Errorf("%v: %s, not %s", c.last, got, c.want)
		}
	}
	d := laid(t, 100)
	do(t, d, create("a"), stop(1), syncDir())
	if !d.Down() {
		t.Error("a last SyncDir does not stop the disk")
	}
	do(t, d, crash())
	if got := files(d); got != "a=" {
		t.Errorf("a last SyncDir: %s", got)
	}
}

func TestP9_7AnEarlierStopCountsNoLonger(t *testing.T) {
	d := laid(t, 100)
	do(t, d, create("a"), stop(1), stop(3), sync("a"), sync("a"))
	if d.Down() {
		t.Error("the earlier one counts")
	}
	do(t, d, stop(2), sync("a"))
	if d.Down() {
		t.Error("the one that had a step left counts")
	}
	if e := d.Stop(-1); e != api.ErrArg || d.Down() {
		t.Errorf("Stop(-1): %d, %v", e, d.Down())
	}
	do(t, d, sync("a"))
	if !d.Down() {
		t.Error("a refused Stop took the one ahead away")
	}
	for _, n := range []int{0, 5, -1, math.MinInt, math.MaxInt} {
		if e := d.Stop(n); e != api.ErrDiskDown {
			t.Errorf("Stop(%d) of a stopped one: %d", n, e)
		}
	}
	do(t, d, crash(1), stop(math.MaxInt), sync("a"), sync("a"))
	for _, n := range []int{-1, math.MinInt} {
		if e := d.Stop(n); e != api.ErrArg || d.Down() {
			t.Errorf("Stop(%d): %d, %v", n, e, d.Down())
		}
	}
	do(t, d, stop(0))
	if !d.Down() {
		t.Error("Stop(0) does not stop at once")
	}
}

func TestP9_7AStoppedDiskTellsNothing(t *testing.T) {
	d := laid(t, 4)
	do(t, d, create("a"), add("a", "12"), stop(0))
	for _, c := range []call{
		create("b"), create("a"), create("A"), create(""), add("a", "3"), add("a", ""), add("a", "34567"), add("x", ""), sync("a"), sync("x"),
		rename("a", "b"), rename("x", "b"), rename("a", "B"), remove("a"), remove("x"), syncDir(), stop(1), stop(-1),
	} {
		if e := c.on(d); e != api.ErrDiskDown {
			t.Errorf("%v: %d", c, e)
		}
	}
	for _, name := range []string{"a", "x", ""} {
		if b, e := d.Read(name); len(b) != 0 || e != api.ErrDiskDown {
			t.Errorf("Read(%q): %q, %d", name, b, e)
		}
	}
	if len(d.Names()) != 0 || d.Used() != 0 || d.Steps() != 2 || !d.Down() {
		t.Errorf("%v, %d, %d, %v", d.Names(), d.Used(), d.Steps(), d.Down())
	}
	do(t, d, crash(1, 1))
	if got := files(d); got != "a=1" || d.Used() != 1 || d.Down() || d.Steps() != 2 {
		t.Errorf("behind the crash: %s, %d, %v, %d", got, d.Used(), d.Down(), d.Steps())
	}
}

func TestP9_8ACrashTakesStopsAway(t *testing.T) {
	d := laid(t, 100)
	do(t, d, create("a"), syncDir(), stop(2), sync("a"), crash())
	for range 5 {
		do(t, d, sync("a"))
	}
	do(t, d, stop(0), crash(), stop(1))
	if d.Down() {
		t.Error("down")
	}
	do(t, d, sync("a"))
	if !d.Down() {
		t.Error("not down")
	}
}

// changes is a run with every kind of change, and what stands behind each first so many of them.
func changes(t *testing.T) (*disk.Disk, []string) {
	t.Helper()
	d := laid(t, 100)
	do(t, d, create("a"), add("a", "A"), sync("a"), create("b"), add("b", "B"), sync("b"), syncDir())
	do(t, d, rename("a", "b"), create("a"), add("a", "C"), sync("a"), remove("b"), rename("a", "b"), rename("b", "c"), create("b"), add("b", "D"), sync("b"))
	return d, []string{"a=A b=B", "b=A", "a=C b=A", "a=C", "b=C", "c=C", "b=D c=C"}
}

func TestP9_8TheFirstSoManyChanges(t *testing.T) {
	d, want := changes(t)
	for c := -30; c <= 30; c++ {
		k := slowSaid(c, 6)
		other := d.Clone()
		do(t, other, crash(c))
		if got := files(other); got != want[k] {
			t.Errorf("Crash(%d): %s, not %s", c, got, want[k])
		}
	}
	for c, k := range map[int]int{math.MaxInt: math.MaxInt % 7, math.MinInt: math.MaxInt % 7, math.MinInt + 1: (math.MaxInt - 1) % 7} {
		other := d.Clone()
		do(t, other, crash(c))
		if got := files(other); got != want[k] {
			t.Errorf("Crash(%d): %s, not %s", c, got, want[k])
		}
	}
	do(t, d, crash())
	if got := files(d); got != want[0] {
		t.Errorf("Crash(): %s, not %s", got, want[0])
	}
}

func TestP9_8TheFirstSoManyBytes(t *testing.T) {
	d := laid(t, 100)
	do(t, d, create("a"), add("a", "ab"), sync("a"), add("a", "cdef"), syncDir())
	for c := -23; c <= 23; c++ {
		want := "ab" + "cdef"[:slowSaid(c, 4)]
		if c < 0 {
			want = "ab" + times("\x00", slowSaid(c, 4))
		}
		other := d.Clone()
		do(t, other, crash(7, c))
		if b, e := other.Read("a"); string(b) != want || e != api.OK || other.Used() != len(want) {
			t.Errorf("Crash(7, %d): %q, not %q", c, b, want)
		}
	}
	for c, want := range map[int]string{math.MaxInt: "abcd", math.MinInt: "ab\x00\x00", math.MinInt + 1: "ab\x00"} { // 2^63 - 1 is 2 above a multiple of 5
		other := d.Clone()
		do(t, other, crash(0, c))
		if got := files(other); got != "a="+want {
			t.Errorf("Crash(0, %d): %q, not %q", c, got, want)
		}
	}
}

func TestP9_8EachFileTakesAChoiceByRisingNames(t *testing.T) {
	d := laid(t, 100)
	do(t, d, create("c"), create("a"), create("b"), create("d"), add("c", "123"), add("a", "456"), add("d", "789"), syncDir())
	for _, c := range []struct {
		choices []int
		want    string
	}{
		{nil, "a= b= c= d="},
		{[]int{0}, "a= b= c= d="},
		{[]int{0, 1}, "a=4 b= c= d="},
		{[]int{0, 1, 1}, "a=4 b= c= d="},
		{[]int{0, 1, 9, 2}, "a=4 b= c=12 d="},
		{[]int{0, -4, -9, 2, 3}, "a=\x00\x00\x00 b= c=12 d=789"},
		{[]int{0, 3, 0, -1, -2}, "a=456 b= c= d=\x00"},
		{[]int{5, 3, 7, 3, 3, 1, 1, -8}, "a=456 b= c=123 d=789"},
	} {
		other := d.Clone()
		do(t, other, crash(c.choices...))
		if got := files(other); got != c.want {
			t.Errorf("Crash(%v): %q, not %q", c.choices, got, c.want)
		}
	}
}

// which names rise is told by the names that the crash leaves, not by those that there were.
func TestP9_8ChoicesGoByTheNamesBehindTheCrash(t *testing.T) {
	d := laid(t, 100)
	do(t, d, create("a"), create("b"), add("a", "123"), add("b", "456"), syncDir(), rename("a", "c"), create("a"), add("a", "789"))
	for _, c := range []struct {
		choices []int
		want    string
	}{
		{[]int{0, 1, 2, 3}, "a=1 b=45"}, {[]int{1, 1, 2, 3}, "b=4 c=12"}, {[]int{2, 1, 2, 3}, "a=7 b=45 c=123"},
	} {
		other := d.Clone()
		do(t, other, crash(c.choices...))
		if got := files(other); got != c.want {
			t.Errorf("Crash(%v): %q, not %q", c.choices, got, c.want)
		}
	}
}

func TestP9_8AllThatThereIsThenIsSafe(t *testing.T) {
	d := laid(t, 100)
	do(t, d, create("a"), syncDir(), add("a", "12"), create("b"), add("b", "34"), rename("b", "c"), crash(2, 1, -2))
	want := "a=1 c=\x00"
	for c := -5; c <= 5; c++ {
		do(t, d, crash(c, c, c))
		if got := files(d); got != want {
			t.Fatalf("Crash(%d) behind a crash: %q, not %q", c, got, want)
		}
	}
	do(t, d, add("a", "5"), create("e"), crash(0, 1))
	if got := files(d); got != "a=15 c=\x00" {
		t.Errorf("changes from ahead of the crash: %q", got)
	}
}

// what a file got under a new name it has under the old one, too, if the change does not survive.
func TestP9_8AFileIsOneUnderAllItsNames(t *testing.T) {
	d := laid(t, 100)
	do(t, d, create("a"), syncDir(), rename("a", "b"), add("b", "12"), sync("b"), rename("b", "c"), add("c", "34"))
	for k, want := range []string{"a=123", "b=123", "c=123"} {
		other := d.Clone()
		do(t, other, crash(k, 1))
		if got := files(other); got != want {
			t.Errorf("Crash(%d): %s, not %s", k, got, want)
		}
		do(t, other, add(want[:1], "9"), crash(1, 1))
		if got := files(other); got != want+"9" {
			t.Errorf("and on behind Crash(%d): %s", k, got)
		}
	}
}

func TestP9_9ACloneIsLikeTheDisk(t *testing.T) {
	d := laid(t, 6)
	do(t, d, create("a"), syncDir(), rename("a", "b"), add("b", "12"), sync("b"), create("a"), add("a", "34"), stop(2))
	other := d.Clone()
	if seen(other) != seen(d) || other.Steps() != 7 {
		t.Errorf("%s\nnot\n%s", seen(other), seen(d))
	}
	if e := other.Append("a", []byte("567")); e != api.ErrDiskFull {
		t.Errorf("another room: %d", e)
	}
	do(t, other, add("a", "5"), add("b", "6"))
	if !other.Down() || d.Down() || d.Steps() != 7 {
		t.Error("another stop")
	}
	if third := other.Clone(); !third.Down() || third.Steps() != 9 || third.Crash(2, 3, 1) != api.OK || files(third) != "a=345 b=126" {
		t.Error("a clone of a stopped one")
	}
	if got := files(d); got != "a=34 b=12" {
		t.Errorf("the clone's steps are the disk's: %s", got)
	}
	do(t, other, crash(0, 1))
	if got := files(other); got != "a=126" {
		t.Error(got)
	}
	if got := files(d); got != "a=34 b=12" {
		t.Errorf("the clone's crash is the disk's: %s", got)
	}
	do(t, d, crash(2, -3))
	if got := files(d) + "; " + files(other); got != "a=\x00\x00 b=12; a=126" {
		t.Errorf("the disk's crash is the clone's: %q", got)
	}
}

// a clone's file stands under a safe name and under another one, as the disk's does.
func TestP9_9AFileOfACloneIsOneToo(t *testing.T) {
	d := laid(t, 100)
	do(t, d, create("a"), syncDir(), rename("a", "b"), add("b", "1"))
	for k, want := range []string{"a=12", "b=12"} {
		other := d.Clone()
		do(t, other, add("b", "2"), sync("b"), crash(k))
		if got := files(other); got != want {
			t.Errorf("Crash(%d): %s, not %s", k, got, want)
		}
	}
	do(t, d, remove("b"))
	other := d.Clone().Clone()
	do(t, other, crash(1, 1))
	if got := files(other); got != "b=1" {
		t.Errorf("a file without a name: %s", got)
	}
}

func TestP9_9ClonesGrowApart(t *testing.T) {
	d := laid(t, 1000)
	do(t, d, create("a"), add("a", times("x", 33)), create("b"), syncDir())
	one, two := d.Clone(), d.Clone()
	do(t, d, add("a", "0"), remove("b"))
	do(t, one, add("a", "1"), create("c"))
	do(t, two, add("a", "2"), rename("b", "d"))
	for i, c := range []struct {
		d    *disk.Disk
		want string
	}{{d, "0"}, {one, "1 b= c="}, {two, "2 d="}} {
		if got := files(c.d); got != "a="+times("x", 33)+c.want {
			t.Errorf("%d: %s", i, got)
		}
	}
	do(t, one, crash(1, -5), add("a", "yyy"))
	do(t, two, crash(0), add("a", "zzz"))
	if got := files(d); got != "a="+times("x", 33)+"0" {
		t.Error(got)
	}
}

// mixedCall is any call, wrong ones among them.
func mixedCall(r *rand.Rand) call {
	names := []string{"a", "b", "c", "d", "a", "b", "", "A", times("q", 33)}
	name := func() string { return names[r.IntN(len(names)-3*r.IntN(2))] }
	switch r.IntN(15) {
	case 0, 1, 2:
		return create(name())
	case 3, 4, 5:
		return add(name(), times(string(rune('e'+r.IntN(20))), r.IntN(6)))
	case 6, 7:
		return sync(name())
	case 8, 9:
		return rename(name(), name())
	case 10:
		return remove(name())
	case 11:
		return syncDir()
	case 12:
		if r.IntN(3) > 0 {
			return add(name(), "+")
		}
		return stop(r.IntN(12) - 1)
	}
	return mixedCrash(r)
}

func mixedCrash(r *rand.Rand) call {
	choices := make([]int, r.IntN(7))
	for i := range choices {
		choices[i] = r.IntN(40) - 20
	}
	return crash(choices...)
}

func TestMixedCallsAsTheWordsSay(t *testing.T) {
	r := mixed(1)
	for range 4000 {
		room := 1 + r.IntN(30)
		d, s := laid(t, room), newSlow(room)
		for range r.IntN(60) {
			both(t, d, s, mixedCall(r))
			if r.IntN(8) == 0 {
				// what is not told now is told by a crash of a clone
				both(t, d.Clone(), s.clone(), mixedCrash(r))
			}
			if r.IntN(20) == 0 {
				d = d.Clone()
			}
		}
		for range 3 {
			both(t, d.Clone(), s.clone(), mixedCrash(r), mixedCall(r), mixedCrash(r))
		}
		if got, want := seen(d), seen(s); got != want {
			t.Fatalf("clones reach back:\n%s\nnot\n%s", got, want)
		}
	}
}

func TestAllShortRunsAsTheWordsSay(t *testing.T) {
	calls := []call{
		create("a"), create("b"), add("a", "12"), add("b", "3"), sync("a"), rename("a", "b"), rename("b", "a"), rename("a", "a"), remove("a"), syncDir(), stop(1), crash(1, 1),
	}
	if testing.Short() {
		calls = calls[:8]
	}
	var run func(d *disk.Disk, s *slow, left int)
	run = func(d *disk.Disk, s *slow, left int) {
		for k := range 4 {
			both(t, d.Clone(), s.clone(), crash(k, k+1, -k))
		}
		if left == 0 {
			return
		}
		for _, c := range calls {
			d, s := d.Clone(), s.clone()
			both(t, d, s, c)
			run(d, s, left-1)
		}
	}
	d, s := laid(t, 4), newSlow(4)
	both(t, d, s, create("a"))
	run(d, s, 4)
}

func TestP9_10SyncedBytesOfSafeNamesAreReadBehindAnyCrash(t *testing.T) {
	r := mixed(2)
	for range 1500 {
		d := laid(t, 60)
		synced := map[string]string{} // of files whose names are safe and were not changed since
		for range 40 {
			c := mixedCall(r)
			if c.kind == "crash" || c.kind == "stop" {
				continue
			}
			ok := c.on(d) == api.OK
			switch {
			case !ok:
			case c.kind == "rename":
				delete(synced, c.name)
				delete(synced, c.more)
			case c.kind == "remove":
				delete(synced, c.name)
			case c.kind == "sync":
				if _, there := synced[c.name]; there {
					b, _ := d.Read(c.name)
					synced[c.name] = string(b)
				}
			case c.kind == "syncdir":
				for _, name := range d.Names() {
					if _, there := synced[name]; !there {
						do(t, d, sync(name))
						b, _ := d.Read(name)
						synced[name] = string(b)
					}
				}
			}
		}
		do(t, d, mixedCrash(r))
		for name, want := range synced {
			if b, e := d.Read(name); !strings.HasPrefix(string(b), want) || e != api.OK {
				t.Fatalf("%s: %q, %d, not %q", name, b, e, want)
			}
		}
		before := seen(d)
		do(t, d, mixedCrash(r))
		if got := seen(d); got != before {
			t.Fatalf("a crash behind a crash: %s, not %s", got, before)
		}
	}
}

func TestP9_10WhatIsNotOKChangesNothing(t *testing.T) {
	r := mixed(3)
	refused := 0
	for range 1500 {
		d := laid(t, 1+r.IntN(20))
		for range 40 {
			c := mixedCall(r)
			before, crashing := d.Clone(), mixedCrash(r)
			if c.on(d) == api.OK {
				continue
			}
			refused++
			if seen(d) != seen(before) {
				t.Fatalf("%v: %s, not %s", c, seen(d), seen(before))
			}
			after := d.Clone()
			do(t, before, crashing)
			do(t, after, crashing)
			if seen(after) != seen(before) {
				t.Fatalf("%v: behind %v %s, not %s", c, crashing, seen(after), seen(before))
			}
		}
	}
	if refused < 1000 {
		t.Errorf("only %d refused", refused)
	}
}

func TestR1TheFirstOfSeveralErrors(t *testing.T) {
	full := laid(t, 2)
	do(t, full, create("a"), add("a", "12"))
	crowd(t, full, 64)
	for _, c := range []struct {
		c    call
		want api.Errno
	}{
		{create(""), api.ErrDiskName}, {create("a"), api.ErrDiskThere}, {create("new"), api.ErrDiskMany},
		{add("no", "123"), api.ErrDiskNone}, {add("", "123"), api.ErrDiskNone}, {add("a", "3"), api.ErrDiskFull},
		{rename("no", ""), api.ErrDiskNone}, {rename("a", ""), api.ErrDiskName}, {stop(-1), api.ErrArg},
	} {
		if e := c.c.on(full); e != c.want {
			t.Errorf("%v: %d, not %d", c.c, e, c.want)
		}
		down := full.Clone()
		do(t, down, stop(0))
		if e := c.c.on(down); e != api.ErrDiskDown {
			t.Errorf("%v on a stopped one: %d", c.c, e)
		}
	}
}

func TestR2ListsAreNotKeptNorWrittenInto(t *testing.T) {
	d := laid(t, 100)
	do(t, d, create("a"), create("b"), syncDir())
	store := []byte("one, two, spare")
	e := d.Append("a", store[:3])
	if e != api.OK || d.Append("a", []byte("X")) != api.OK || string(store) != "one, two, spare" {
		t.Errorf("Append: %d, %q", e, store)
	}
	clear(store)
	first, _ := d.Read("a")
	second, _ := d.Read("a")
	if string(first) != "oneX" {
		t.Errorf("Append keeps the list: %q", first)
	}
	clear(first)
	_ = append(first[:0], "overwritten"...)
	if string(second) != "oneX" || files(d) != "a=oneX b=" {
		t.Errorf("Read hands out what is kept: %q, %s", second, files(d))
	}
	do(t, d, add("a", "YZ"), crash(0, -7))
	if string(second) != "oneX" {
		t.Errorf("what was read changes later: %q", second)
	}
	names := d.Names()
	names[0] = "x"
	if got := d.Names(); !slices.Equal(got, []string{"a", "b"}) {
		t.Errorf("Names hands out what is kept: %v", got)
	}
	choices := []int{1, 2, -3, 4, 5}
	if e := d.Crash(choices[:2]...); e != api.OK || !slices.Equal(choices, []int{1, 2, -3, 4, 5}) {
		t.Errorf("Crash writes into the choices: %d, %v", e, choices)
	}
}

func TestR2DisksKnowNothingOfOneAnother(t *testing.T) {
	one, two := laid(t, 3), laid(t, 3)
	do(t, one, create("a"), add("a", "123"), syncDir(), stop(0))
	if len(two.Names()) != 0 || two.Used() != 0 || two.Steps() != 0 || two.Down() {
		t.Error(seen(two))
	}
	do(t, two, create("a"), add("a", "456"))
	if got := files(two); got != "a=456" {
		t.Error(got)
	}
}

func TestR2LongRowsOfAppends(t *testing.T) {
	d := laid(t, api.MaxRoom)
	do(t, d, create("a"), create("b"), syncDir())
	var want bytes.Buffer
	for i := range 3000 {
		part := bytes.Repeat([]byte{byte(i)}, i%97)
		want.Write(part)
		if e := d.Append("a", part); e != api.OK {
			t.Fatal(e)
		}
		do(t, d, add("b", "."))
	}
	if b, e := d.Read("a"); !bytes.Equal(b, want.Bytes()) || e != api.OK || d.Used() != want.Len()+3000 {
		t.Errorf("%d bytes, %d; used %d", len(b), e, d.Used())
	}
}

func TestR3ANilDisk(t *testing.T) {
	var none *disk.Disk
	for _, c := range []call{
		create("a"), create(""), add("a", "1"), add("", ""), sync("a"), rename("a", "b"), rename("", ""), remove("a"), syncDir(),
		stop(0), stop(-1), crash(), crash(1, 2),
	} {
		if e := c.on(none); e != api.ErrNil {
			t.Errorf("%v: %d", c, e)
		}
	}
	if b, e := none.Read("a"); len(b) != 0 || e != api.ErrNil {
		t.Errorf("Read: %q, %d", b, e)
	}
	if len(none.Names()) != 0 || none.Used() != 0 || none.Steps() != 0 || none.Down() || none.Clone() != nil {
		t.Error("a nil disk tells something")
	}
}
