package shelf_test

import (
	"bytes"
	"fmt"
	"maps"
	"math"
	"math/rand/v2"
	"reflect"
	"slices"
	"strings"
	"testing"

	"haversack/api"
	"haversack/disk"
	"haversack/little"
	"haversack/shelf"
	"haversack/wal"
	"haversack/zip"
)

// mixed tells numbers that look mixed and are the same in each run.
func mixed(seed uint64) *rand.Rand { return rand.New(rand.NewPCG(seed, 11)) }

func times(s string, n int) string { return strings.Repeat(s, n) }

func laid(t *testing.T, room int) *disk.Disk {
	t.Helper()
	d, e := disk.New(room)
	if d == nil || e != api.OK {
		t.Fatalf("New(%d): %v, %d", room, d, e)
	}
	return d
}

func must(t *testing.T, what string, e api.Errno) {
	t.Helper()
	if e != api.OK {
		t.Fatalf("%s: %d", what, e)
	}
}

// box is an archive of entries without data.
func box(tenant, name string, entries ...string) api.Archive {
	a := api.Archive{Tenant: tenant, Name: name}
	for _, x := range entries {
		a.Entries = append(a.Entries, api.Entry{Name: x})
	}
	return a
}

func one(data string) []api.Archive {
	return []api.Archive{{Tenant: "a", Name: "x", Entries: []api.Entry{{Name: "e", Data: data}}}}
}

func list(l ...api.Archive) []api.Archive { return l }

// some is a state with several tenants, archives and entries, and data of several kinds.
func some() []api.Archive {
	return list(
		api.Archive{Tenant: "-", Name: "-", Entries: []api.Entry{{Name: "-"}}},
		api.Archive{Tenant: "a", Name: "x", Entries: []api.Entry{{Name: "a/b.txt", Data: times("x", 100)}, {Name: "e", Data: "data"}}},
		api.Archive{Tenant: "a", Name: "y", Entries: []api.Entry{{Name: "e", Data: "\x00\xff\n"}}},
		api.Archive{Tenant: times("z", 16), Name: times("9", 16), Entries: []api.Entry{{Name: times("n", 64), Data: times("text ", 50)}}},
	)
}

func same(a, b []api.Archive) bool { return len(a) == 0 && len(b) == 0 || reflect.DeepEqual(a, b) }

func load(t *testing.T, d *disk.Disk, n int, l []api.Archive) {
	t.Helper()
	m, got, e := shelf.Load(d)
	if m != n || e != api.OK || !same(got, l) {
		t.Fatalf("Load: %d, %.200v, %d; not %d, %.200v", m, got, e, n, l)
	}
}

func save(t *testing.T, d *disk.Disk, n int, l []api.Archive) {
	t.Helper()
	must(t, fmt.Sprintf("Save(%d)", n), shelf.Save(d, n, l))
	load(t, d, n, l)
}

// shelves tells the names of shelf's files.
func shelves(d *disk.Disk) []string {
	return slices.DeleteFunc(d.Names(), func(name string) bool { return !strings.HasPrefix(name, "shelf.") })
}

// files is all that stands on a disk.
func files(d *disk.Disk) map[string]string {
	out := map[string]string{}
	for _, name := range d.Names() {
		b, _ := d.Read(name)
		out[name] = string(b)
	}
	return out
}

// lay puts a file with these bytes into the place of the one of this name.
func lay(t *testing.T, d *disk.Disk, name string, b []byte) {
	t.Helper()
	d.Remove(name)
	must(t, "Create", d.Create(name))
	must(t, "Append", d.Append(name, b))
	must(t, "Sync", d.Sync(name))
	must(t, "SyncDir", d.SyncDir())
}

// saved is a disk with this state alone, the name of its file, and the file's bytes.
func saved(t *testing.T, n int, l []api.Archive) (*disk.Disk, string, []byte) {
	t.Helper()
	d := laid(t, api.MaxRoom)
	save(t, d, n, l)
	names := d.Names()
	if len(names) != 1 || len(shelves(d)) != 1 {
		t.Fatalf("Save: %q", names)
	}
	b, e := d.Read(names[0])
	must(t, "Read", e)
	return d, names[0], b
}

func TestExamples(t *testing.T) {
	for i, x := range []struct {
		l    []api.Archive
		want api.Errno
	}{
		{list(box("a", "x", "e")), api.OK},
		{list(box("a", "x", "f", "e")), api.ErrArg},
		{nil, api.OK},
		{list(box("a", "x")), api.ErrArg},
	} {
		if e := shelf.Check(x.l); e != x.want {
			t.Errorf("list %d: %d, not %d", i, e, x.want)
		}
	}
	d := laid(t, api.MaxRoom)
	load(t, d, 0, nil)
	save(t, d, 7, one("data"))
	small := laid(t, 10)
	if e := shelf.Save(small, 1, one(times("y", 99))); e != api.ErrDiskFull {
		t.Errorf("a disk with room 10: %d", e)
	}
	load(t, small, 0, nil)
	must(t, "Stop", d.Stop(0))
	if e := shelf.Save(d, 8, nil); e != api.ErrDiskDown {
		t.Errorf("a stopped disk: %d", e)
	}
	if n, l, e := shelf.Load(d); n != 0 || len(l) != 0 || e != api.ErrDiskDown {
		t.Errorf("a stopped disk: %d, %v, %d", n, l, e)
	}
	must(t, "Crash", d.Crash())
	load(t, d, 7, one("data"))
}

// row is as many archives of one tenant.
func row(tenant string, n int) []api.Archive {
	var l []api.Archive
	for i := range n {
		l = append(l, box(tenant, fmt.Sprintf("n%03d", i), "e"))
	}
	return l
}

// many is as many entries.
func many(n int) []string {
	var l []string
	for i := range n {
		l = append(l, fmt.Sprintf("e%04d", i))
	}
	return l
}

// tenants is as many tenants, with as many archives each.
func tenants(n, archives int) []api.Archive {
	var l []api.Archive
	for i := range n {
		l = append(l, row(fmt.Sprintf("t%03d", i), archives)...)
	}
	return l
}

func with(data string) api.Archive { return one(data)[0] }

func TestP11_1Lists(t *testing.T) {
	for what, x := range map[string]struct {
		l    []api.Archive
		want api.Errno
	}{
		"none":                                {list(), api.OK},
		"some":                                {some(), api.OK},
		"16 bytes of a tenant":                {list(box(times("a", 16), "x", "e")), api.OK},
		"17 bytes of a tenant":                {list(box(times("a", 17), "x", "e")), api.ErrArg},
		"16 bytes of a name":                  {list(box("a", times("x", 16), "e")), api.OK},
		"17 bytes of a name":                  {list(box("a", times("x", 17), "e")), api.ErrArg},
		"no tenant":                           {list(box("", "x", "e")), api.ErrArg},
		"no name":                             {list(box("a", "", "e")), api.ErrArg},
		"neither":                             {list(api.Archive{}), api.ErrArg},
		"an archive twice":                    {list(box("a", "x", "e"), box("a", "x", "f")), api.ErrArg},
		"names that fall":                     {list(box("a", "y", "e"), box("a", "x", "e")), api.ErrArg},
		"tenants that fall":                   {list(box("b", "x", "e"), box("a", "y", "e")), api.ErrArg},
		"names that fall with another tenant": {list(box("a", "y", "e"), box("b", "x", "e")), api.OK},
		"one name of two tenants":             {list(box("a", "x", "e"), box("b", "x", "e")), api.OK},
		"a tenant that comes again":           {list(box("a", "x", "e"), box("b", "x", "e"), box("a", "y", "e")), api.ErrArg},
		"a longer name":                       {list(box("a", "x", "e"), box("a", "x-", "e"), box("a", "x0", "e")), api.OK},
		"a shorter name":                      {list(box("a", "x-", "e"), box("a", "x", "e")), api.ErrArg},
		"a tenant and name that join to the same": {list(box("a", "bc", "e"), box("ab", "c", "e")), api.OK},
		"16 archives":                           {row("a", 16), api.OK},
		"17 archives":                           {row("a", 17), api.ErrLong},
		"8 tenants":                             {tenants(8, 1), api.OK},
		"9 tenants":                             {tenants(9, 1), api.ErrLong},
		"8 tenants of 16 archives":              {tenants(8, 16), api.OK},
		"the last of 8 tenants has 17 archives": {append(tenants(7, 16), row("z", 17)...), api.ErrLong},
		"no entries":                            {list(box("a", "x")), api.ErrArg},
		"64 entries":                            {list(box("a", "x", many(64)...)), api.OK},
		"65 entries":                            {list(box("a", "x", many(65)...)), api.ErrLong},
		"a second archive with 65 entries":      {list(box("a", "x", "e"), box("a", "y", many(65)...)), api.ErrLong},
		"an entry twice":                        {list(box("a", "x", "e", "e")), api.ErrArg},
		"entries that fall":                     {list(box("a", "x", "e", "d")), api.ErrArg},
		"an entry's name of 64 bytes":           {list(box("a", "x", times("e", 64))), api.OK},
		"an entry's name of 65 bytes":           {list(box("a", "x", times("e", 65))), api.ErrArg},
		"an entry's name of no bytes":           {list(box("a", "x", "")), api.ErrArg},
		"entries with parts":                    {list(box("a", "x", "a", "a-b", "a/b", "a0", "a_b")), api.OK},
		"8192 bytes":                            {list(with(times("x", 8192))), api.OK},
		"8193 bytes":                            {list(with(times("x", 8193))), api.ErrLong},
	} {
		if e := shelf.Check(x.l); e != x.want {
			t.Errorf("%s: %d, not %d", what, e, x.want)
		}
	}
}

func TestP11_1EachByteOfAName(t *testing.T) {
	for c := range 256 {
		s := string([]byte{byte(c)})
		letter := c >= 'a' && c <= 'z' || c >= '0' && c <= '9' || c == '-'
		for _, name := range []string{s, "a" + s + "b", "ab" + s, s + "ab"} {
			want := api.ErrArg
			if letter {
				want = api.OK
			}
			if e := shelf.Check(list(box(name, "x", "e"))); e != want {
				t.Errorf("the tenant %q: %d, not %d", name, e, want)
			}
			if e := shelf.Check(list(box("a", name, "e"))); e != want {
				t.Errorf("the archive %q: %d, not %d", name, e, want)
			}
		}
		want := api.ErrArg
		if letter || c == '.' || c == '_' || c == '/' {
			want = api.OK
		}
		if e := shelf.Check(list(box("a", "x", "a"+s+"b"))); e != want {
			t.Errorf("the entry %q: %d, not %d", "a"+s+"b", e, want)
		}
	}
	for _, name := range []string{".", "..", "a/", "/a", "a//b", "a/./b", "../a", "A", "é"} {
		if e := shelf.Check(list(box("a", "x", name))); e != api.ErrArg {
			t.Errorf("the entry %q: %d", name, e)
		}
	}
}

func TestP11_1TheFirstOfSeveralErrors(t *testing.T) {
	long := api.Entry{Name: "e", Data: times("x", 8193)}
	heavy := api.Archive{Tenant: "a", Name: "x", Entries: []api.Entry{long}}
	bad := box("A", "x", "e")
	for what, x := range map[string]struct {
		l    []api.Archive
		want api.Errno
	}{
		"an entry ahead of the next archive":     {list(heavy, bad), api.ErrLong},
		"an archive ahead of its entries":        {list(api.Archive{Tenant: "A", Name: "x", Entries: []api.Entry{long}}), api.ErrArg},
		"the first archive":                      {list(bad, heavy), api.ErrArg},
		"a name ahead of 17 archives":            {append(row("a", 16), box("a", "N", "e")), api.ErrArg},
		"the order ahead of 17 archives":         {append(row("a", 16), box("a", "n000", "e")), api.ErrArg},
		"17 archives ahead of no entries":        {append(row("a", 16), box("a", "z")), api.ErrLong},
		"a name ahead of 9 tenants":              {append(tenants(8, 1), box("z", "X", "e")), api.ErrArg},
		"9 tenants ahead of no entries":          {append(tenants(8, 1), box("z", "x")), api.ErrLong},
		"9 tenants ahead of an entry's name":     {append(tenants(8, 1), box("z", "x", "E")), api.ErrLong},
		"no entries ahead of 17 archives":        {append(list(box("a", "m")), row("a", 16)...), api.ErrArg},
		"65 entries ahead of an entry's name":    {list(box("a", "x", append([]string{"E"}, many(64)...)...)), api.ErrLong},
		"an entry's name ahead of its length":    {list(api.Archive{Tenant: "a", Name: "x", Entries: []api.Entry{{Name: "E", Data: long.Data}}}), api.ErrArg},
		"an entry's place ahead of its length":   {list(api.Archive{Tenant: "a", Name: "x", Entries: []api.Entry{{Name: "f"}, long}}), api.ErrArg},
		"an entry's length ahead of the next":    {list(api.Archive{Tenant: "a", Name: "x", Entries: []api.Entry{long, {Name: "E"}}}), api.ErrLong},
		"an entry's name ahead of another's":     {list(api.Archive{Tenant: "a", Name: "x", Entries: []api.Entry{{Name: "E"}, long}}), api.ErrArg},
		"a tenant's name ahead of an order":      {list(box("b", "x", "e"), box("A", "x", "e")), api.ErrArg},
		"9 tenants ahead of 17 of the next":      {append(tenants(9, 1), row("z", 17)...), api.ErrLong},
		"an order of the 9th ahead of the limit": {append(tenants(8, 1), box("a", "x", "e")), api.ErrArg},
	} {
		if e := shelf.Check(x.l); e != x.want {
			t.Errorf("%s: %d, not %d", what, e, x.want)
		}
	}
}

// slowCheck is P11.1 read word by word.
func slowCheck(l []api.Archive) api.Errno {
	for i, a := range l {
		mine, all := 1, map[string]int{a.Tenant: 1}
		for _, b := range l[:i] {
			all[b.Tenant] = 1
			if b.Tenant == a.Tenant {
				mine++
			}
		}
		key := func(a api.Archive) string { return a.Tenant + "\x00" + a.Name }
		switch {
		case !slowShort(a.Tenant) || !slowShort(a.Name), i > 0 && key(l[i-1]) >= key(a):
			return api.ErrArg
		case mine > 16 || len(all) > 8:
			return api.ErrLong
		case len(a.Entries) == 0:
			return api.ErrArg
		case len(a.Entries) > 64:
			return api.ErrLong
		}
		for j, x := range a.Entries {
			switch {
			case !zip.Name(x.Name) || j > 0 && a.Entries[j-1].Name >= x.Name:
				return api.ErrArg
			case len(x.Data) > 8192:
				return api.ErrLong
			}
		}
	}
	return api.OK
}

func slowShort(s string) bool {
	if len(s) < 1 || len(s) > 16 {
		return false
	}
	for _, c := range []byte(s) {
		if !strings.Contains("abcdefghijklmnopqrstuvwxyz0123456789-", string([]byte{c})) {
			return false
		}
	}
	return true
}

// names is as many different names, rising.
func names(x *rand.Rand, n int) []string {
	seen := map[string]int{}
	for len(seen) < n {
		b := make([]byte, 1+x.IntN(3))
		for i := range b {
			b[i] = "ab09-"[x.IntN(5)]
		}
		seen[string(b)]++
	}
	return slices.Sorted(maps.Keys(seen))
}

func size(x *rand.Rand) int {
	switch x.IntN(12) {
	case 0:
		return 8192 - x.IntN(3)
	case 1, 2:
		return x.IntN(2000)
	}
	return x.IntN(50)
}

func data(x *rand.Rand) string {
	n := size(x)
	if x.IntN(2) == 0 {
		return times("ab", n/2)
	}
	b := make([]byte, n)
	for i := range b {
		b[i] = byte(x.Uint32() >> 7)
	}
	return string(b)
}

// state is a state with at most so many tenants, archives of each and entries of each.
func state(x *rand.Rand, most, archives, entries int) []api.Archive {
	var l []api.Archive
	for _, tenant := range names(x, x.IntN(most+1)) {
		for _, name := range names(x, 1+x.IntN(archives)) {
			a := api.Archive{Tenant: tenant, Name: name}
			for _, entry := range names(x, 1+x.IntN(entries)) {
				a.Entries = append(a.Entries, api.Entry{Name: entry, Data: data(x)})
			}
			l = append(l, a)
		}
	}
	return l
}

// spoil changes one thing in a state, so that it may be none any more.
func spoil(x *rand.Rand, l []api.Archive) []api.Archive {
	if len(l) == 0 {
		return l
	}
	i := x.IntN(len(l))
	entries := l[i].Entries
	switch x.IntN(9) {
	case 0:
		l[i].Tenant = []string{"", "A", "a", "zz", times("a", 17), "a/b"}[x.IntN(6)]
	case 1:
		l[i].Name = []string{"", "A", "a", "zz", times("a", 17), "a.b"}[x.IntN(6)]
	case 2:
		l[i].Entries = nil
	case 3:
		l = slices.Insert(l, i, l[x.IntN(len(l))])
	case 4:
		j := x.IntN(len(l))
		l[i], l[j] = l[j], l[i]
	case 5:
		l[i].Entries = box("", "", many(64+x.IntN(2))...).Entries
	default:
		if len(entries) == 0 {
			return l
		}
		j, k := x.IntN(len(entries)), x.IntN(len(entries))
		switch x.IntN(3) {
		case 0:
			entries[j].Name = []string{"", "A", "a/", "a/b", "zz"}[x.IntN(5)]
		case 1:
			entries[j].Data = times("x", 8192+x.IntN(2))
		case 2:
			entries[j], entries[k] = entries[k], entries[j]
		}
	}
	return l
}

func TestP11_1MixedLists(t *testing.T) {
	seen := map[api.Errno]int{}
	for seed := range uint64(6000) {
		x := mixed(seed)
		l := state(x, 10, 5, 3)
		for range x.IntN(4) {
			l = spoil(x, l)
		}
		want := slowCheck(l)
		seen[want]++
		if e := shelf.Check(l); e != want {
			t.Fatalf("seed %d: %d, not %d: %.500v", seed, e, want, l)
		}
	}
	for _, e := range []api.Errno{api.OK, api.ErrArg, api.ErrLong} {
		if seen[e] < 300 {
			t.Errorf("the answer %d was asked for %d times", e, seen[e])
		}
	}
}

func TestP11_2Numbers(t *testing.T) {
	d := laid(t, api.MaxRoom)
	for _, n := range []int{0, 1, 255, 256, 65536, api.MaxTime - 1, api.MaxTime} {
		save(t, d, n, one(fmt.Sprint(n)))
		must(t, "Crash", d.Crash())
		load(t, d, n, one(fmt.Sprint(n)))
	}
	save(t, d, 5, some())
	before := files(d)
	for _, n := range []int{-1, api.MaxTime + 1, math.MaxInt32, 1 << 32, 1<<32 + 5, math.MaxInt, math.MinInt} {
		if e := shelf.Save(d, n, one("x")); e != api.ErrArg {
			t.Errorf("Save(%d): %d", n, e)
		}
	}
	if !maps.Equal(before, files(d)) {
		t.Error("a refused number changed files")
	}
	load(t, d, 5, some())
}

func TestP11_2ListsThatAreNone(t *testing.T) {
	d := laid(t, api.MaxRoom)
	save(t, d, 5, some())
	steps := d.Steps()
	for i, x := range []struct {
		l    []api.Archive
		want api.Errno
	}{
		{list(box("a", "x")), api.ErrArg},
		{list(box("a", "x", "f", "e")), api.ErrArg},
		{list(box("a", "y", "e"), box("a", "x", "e")), api.ErrArg},
		{list(with(times("x", 8193))), api.ErrLong},
		{row("a", 17), api.ErrLong},
		{tenants(9, 1), api.ErrLong},
		{append(some(), box("A", "x", "e")), api.ErrArg},
	} {
		if e := shelf.Save(d, 6, x.l); e != x.want {
			t.Errorf("list %d: %d, not %d", i, e, x.want)
		}
	}
	if d.Steps() != steps {
		t.Errorf("a refused list took %d steps", d.Steps()-steps)
	}
	load(t, d, 5, some())
}

func TestP11_2StatesOfAllSizes(t *testing.T) {
	d := laid(t, api.MaxRoom)
	for i, l := range [][]api.Archive{
		nil, one(""), one("x"), some(), nil, list(), row("a", 16), tenants(8, 1), tenants(8, 16),
		list(box("a", "x", many(64)...)), one(times("x", 8192)), list(box(times("a", 16), times("x", 16), times("e", 64))),
	} {
		save(t, d, i, l)
		must(t, "Crash", d.Crash(9, 9, -9))
		load(t, d, i, l)
	}
}

// greatest is a state than which none has more: its data are deflated to little.
func greatest() []api.Archive {
	l := tenants(8, 16)
	for i := range l {
		l[i].Entries = box("", "", many(64)...).Entries
		for j := range l[i].Entries {
			l[i].Entries[j].Data = times("x", 8192)
		}
	}
	return l
}

func TestP11_2TheGreatestState(t *testing.T) {
	d := laid(t, api.MaxRoom)
	l := greatest()
	must(t, "Save", shelf.Save(d, 1, l))
	must(t, "Crash", d.Crash(1, 1, 1))
	load(t, d, 1, l)
	x := mixed(1)
	for i := range l {
		b := make([]byte, 8192)
		for j := range b {
			b[j] = byte(x.Uint32())
		}
		for j := range l[i].Entries {
			l[i].Entries[j].Data = string(b)
		}
	}
	before := files(d)
	if e := shelf.Save(d, 2, l); e != api.ErrDiskFull || !maps.Equal(before, files(d)) {
		t.Errorf("more than a disk holds: %d, %q", e, d.Names())
	}
}

func TestP11_2MixedStates(t *testing.T) {
	d := laid(t, api.MaxRoom)
	for seed := range uint64(300) {
		x := mixed(seed)
		l := state(x, 3, 3, 5)
		n := x.IntN(api.MaxTime + 1)
		save(t, d, n, l)
		must(t, "Crash", d.Crash(int(x.Uint64()), int(x.Uint64()), int(x.Uint64())))
		load(t, d, n, l)
		load(t, d, n, l)
	}
}

// A Save whose disk is full leaves the state that was there, and no bytes and names of its own.
func TestP11_2EachRoomInWhichADiskIsFull(t *testing.T) {
	big := list(with(times("0123456789abcdef", 3)), box("b", "y", "e", "f"))
	_, _, first := saved(t, 1, one("x"))
	_, _, second := saved(t, 2, big)
	fits := 0
	for room := 1; room <= len(first)+len(second)+3; room++ {
		d := laid(t, room)
		n, l := 0, list()
		for i, next := range [][]api.Archive{one("x"), big} {
			before := files(d)
			e := shelf.Save(d, i+1, next)
			if e == api.OK {
				n, l = i+1, next
				fits++
			} else if e != api.ErrDiskFull || !maps.Equal(before, files(d)) {
				t.Fatalf("room %d: %d, %q", room, e, d.Names())
			}
			load(t, d, n, l)
		}
		must(t, "Crash", d.Crash(room, room, room))
		load(t, d, n, l)
	}
	if fits < 8 {
		t.Errorf("only %d fit", fits)
	}
}

func TestP11_2AFullDiskMayBeSavedToOnceThereIsRoom(t *testing.T) {
	_, _, b := saved(t, 1, some())
	d := laid(t, 2*len(b)+100)
	save(t, d, 1, some())
	must(t, "Create", d.Create("other"))
	must(t, "Append", d.Append("other", make([]byte, 200)))
	for range 5 {
		if e := shelf.Save(d, 2, some()); e != api.ErrDiskFull {
			t.Fatalf("Save: %d", e)
		}
		load(t, d, 1, some())
	}
	must(t, "Remove", d.Remove("other"))
	for n := range 20 {
		save(t, d, n, some())
	}
}

func TestP11_2ADiskWithAsManyFilesAsMayBe(t *testing.T) {
	for _, others := range []int{62, 63, 64} {
		for _, there := range []bool{false, true} {
			d := laid(t, api.MaxRoom)
			n, l := 0, list()
			if there {
				n, l = 1, some()
				save(t, d, n, l)
			}
			for i := 0; len(d.Names()) < others; i++ {
				must(t, "Create", d.Create(fmt.Sprintf("other-%d", i)))
			}
			before := files(d)
			switch e := shelf.Save(d, 2, one("x")); {
			case e == api.OK && others < 64:
				n, l = 2, one("x")
			case e != api.ErrDiskMany || others < 64 || !maps.Equal(before, files(d)):
				t.Errorf("%d files: %d, %q", others, e, d.Names())
			}
			load(t, d, n, l)
		}
	}
}

// What a stopped Save left does not get into the next one's way, neither by its bytes nor by its name.
func TestP11_2WhatAStoppedSaveLeft(t *testing.T) {
	left := 0
	for stop := range 12 {
		for names := range 4 {
			d := laid(t, api.MaxRoom)
			save(t, d, 1, one("x"))
			must(t, "Stop", d.Stop(stop))
			shelf.Save(d, 2, some())
			must(t, "Crash", d.Crash(names, 1000, 1000))
			if len(shelves(d)) > 1 {
				left++
			}
			for i := 0; len(d.Names()) < 64; i++ {
				must(t, "Create", d.Create(fmt.Sprintf("other-%d", i)))
			}
			if len(shelves(d)) > 1 {
				save(t, d, 3, one("y"))
				must(t, "Crash", d.Crash(names, 1000, 1000))
				load(t, d, 3, one("y"))
			}
		}
	}
	if left == 0 {
		t.Error("no Save left anything")
	}
}

func TestP11_3WithoutAState(t *testing.T) {
	for _, room := range []int{1, 10, api.MaxRoom} {
		d := laid(t, room)
		load(t, d, 0, nil)
		must(t, "Create", d.Create("other"))
		must(t, "Create", d.Create("shelf"))
		must(t, "Create", d.Create("log.1"))
		steps := d.Steps()
		load(t, d, 0, nil)
		if d.Steps() != steps {
			t.Errorf("Load took %d steps", d.Steps()-steps)
		}
		must(t, "Stop", d.Stop(0))
		if n, l, e := shelf.Load(d); n != 0 || len(l) != 0 || e != api.ErrDiskDown {
			t.Errorf("a stopped disk: %d, %v, %d", n, l, e)
		}
	}
}

func TestP11_3AStoppedDiskAheadOfASpoiltFile(t *testing.T) {
	d, name, _ := saved(t, 1, some())
	must(t, "Append", d.Append(name, []byte("x")))
	must(t, "Stop", d.Stop(0))
	if n, l, e := shelf.Load(d); n != 0 || len(l) != 0 || e != api.ErrDiskDown {
		t.Errorf("%d, %v, %d", n, l, e)
	}
}

func spoilt(t *testing.T, what string, d *disk.Disk) {
	t.Helper()
	if n, l, e := shelf.Load(d); n != 0 || len(l) != 0 || e != api.ErrShelfSpoilt {
		t.Errorf("%s: %d, %.200v, %d", what, n, l, e)
	}
}

func TestP11_3EachBitOfAFileTurned(t *testing.T) {
	d, name, b := saved(t, 7, some())
	for i := range b {
		for bit := range 8 {
			other := slices.Clone(b)
			other[i] ^= 1 << bit
			lay(t, d, name, other)
			spoilt(t, fmt.Sprintf("bit %d of byte %d", bit, i), d)
		}
	}
	lay(t, d, name, b)
	load(t, d, 7, some())
}

func TestP11_3FilesOfOtherLengths(t *testing.T) {
	d, name, b := saved(t, 7, some())
	for n := range b {
		lay(t, d, name, b[:n])
		spoilt(t, fmt.Sprintf("%d bytes of %d", n, len(b)), d)
		lay(t, d, name, b[len(b)-n:])
		spoilt(t, fmt.Sprintf("the last %d bytes of %d", n, len(b)), d)
		lay(t, d, name, make([]byte, n))
		spoilt(t, fmt.Sprintf("%d noughts", n), d)
		lay(t, d, name, slices.Concat(b[:n], make([]byte, len(b)-n)))
		if !bytes.Equal(b[n:], make([]byte, len(b)-n)) {
			spoilt(t, fmt.Sprintf("%d bytes of %d, then noughts", n, len(b)), d)
		}
	}
	for _, more := range [][]byte{{0}, {1}, []byte("text"), b, make([]byte, 1000)} {
		lay(t, d, name, slices.Concat(b, more))
		spoilt(t, fmt.Sprintf("%d bytes more", len(more)), d)
	}
	lay(t, d, name, bytes.Repeat([]byte("x"), 100000))
	spoilt(t, "other bytes", d)
	lay(t, d, name, make([]byte, api.MaxRoom))
	spoilt(t, "as many noughts as there is room", d)
}

// forged tells the bytes of a file whose check is right, whatever the rest is.
func forged(parts ...[]byte) []byte {
	b := slices.Concat(parts...)
	return little.Put32(b, little.Sum(b))
}

func sized(b []byte) []byte { return append(little.Put32(nil, uint32(len(b))), b...) }

func numbers(l ...int) []byte {
	var b []byte
	for _, v := range l {
		b = little.Put32(b, uint32(v))
	}
	return b
}

// whole tells an archive's part of a file, whatever its names and entries are.
func whole(tenant, name string, l ...api.Entry) []byte {
	file, e := zip.Write(l)
	if e != api.OK {
		panic(e)
	}
	return slices.Concat(sized([]byte(tenant)), sized([]byte(name)), sized(file))
}

// The check alone does not make a file a state: each part of it must be one.
func TestP11_3FilesWhoseCheckIsRight(t *testing.T) {
	d, name, b := saved(t, 7, one("data"))
	sign := b[:4]
	x := whole("a", "x", api.Entry{Name: "e", Data: "data"})
	if !bytes.Equal(b, forged(sign, numbers(7, 1), x)) {
		t.Fatal("a file is laid in another way: this test must be, too")
	}
	file, _ := zip.Write([]api.Entry{{Name: "e", Data: "data"}})
	rotten := slices.Clone(file)
	rotten[31] ^= 1 // a byte of the data
	for what, b := range map[string][]byte{
		"nothing":                  forged(),
		"a sign alone":             forged(sign),
		"no number of archives":    forged(sign, numbers(7)),
		"another sign":             forged([]byte("zip "), numbers(7, 1), x),
		"a number above all":       forged(sign, numbers(api.MaxTime+1, 1), x),
		"the greatest number":      forged(sign, numbers(-1, 1), x),
		"fewer archives":           forged(sign, numbers(7, 0), x),
		"more archives":            forged(sign, numbers(7, 2), x),
		"129 archives":             forged(sign, numbers(7, 129), x),
		"very many archives":       forged(sign, numbers(7, -1), x),
		"a byte more":              forged(sign, numbers(7, 1), x, []byte{0}),
		"no byte of an archive":    forged(sign, numbers(7, 1)),
		"half an archive":          forged(sign, numbers(7, 1), x[:len(x)/2]),
		"an archive without bytes": forged(sign, numbers(7, 1), numbers(0, 0, 0)),
		"a length beyond the end":  forged(sign, numbers(7, 1), numbers(-1), x),
		"a zip beyond the end":     forged(sign, numbers(7, 1), sized([]byte("a")), sized([]byte("x")), numbers(len(file)+1), file),
		"a zip that is none":       forged(sign, numbers(7, 1), sized([]byte("a")), sized([]byte("x")), sized([]byte("no zip"))),
		"a zip with a fault":       forged(sign, numbers(7, 1), sized([]byte("a")), sized([]byte("x")), sized(rotten)),
		"a zip that is too long":   forged(sign, numbers(7, 1), sized([]byte("a")), sized([]byte("x")), sized(make([]byte, api.MaxZip+1))),
		"no entries":               forged(sign, numbers(7, 1), whole("a", "x")),
		"a tenant that is none":    forged(sign, numbers(7, 1), whole("A", "x", api.Entry{Name: "e"})),
		"an archive that is none":  forged(sign, numbers(7, 1), whole("a", "", api.Entry{Name: "e"})),
		"an archive twice":         forged(sign, numbers(7, 2), x, x),
		"archives that fall":       forged(sign, numbers(7, 2), x, whole("a", "w", api.Entry{Name: "e"})),
		"entries that fall":        forged(sign, numbers(7, 1), whole("a", "x", api.Entry{Name: "f"}, api.Entry{Name: "e"})),
		"17 archives of a tenant":  forged(sign, numbers(7, 17), wholes(1, 17)),
		"9 tenants":                forged(sign, numbers(7, 9), wholes(9, 1)),
	} {
		lay(t, d, name, b)
		spoilt(t, what, d)
	}
	lay(t, d, name, forged(sign, numbers(api.MaxTime, 128), wholes(8, 16)))
	load(t, d, api.MaxTime, tenants(8, 16))
	lay(t, d, name, forged(sign, numbers(0, 0)))
	load(t, d, 0, nil)
}

func wholes(n, archives int) []byte {
	var b []byte
	for _, a := range tenants(n, archives) {
		b = append(b, whole(a.Tenant, a.Name, a.Entries...)...)
	}
	return b
}

func TestP11_3AStateIsSavedInThePlaceOfASpoiltOne(t *testing.T) {
	d, name, _ := saved(t, 7, some())
	must(t, "Append", d.Append(name, []byte("x")))
	spoilt(t, "a byte more", d)
	must(t, "Stop", d.Stop(2))
	if e := shelf.Save(d, 8, one("x")); e != api.ErrDiskDown {
		t.Errorf("Save: %d", e)
	}
	must(t, "Crash", d.Crash(0, 1))
	spoilt(t, "behind a stopped Save", d)
	save(t, d, 8, one("x"))
}

func TestP11_4HowManyWereRemoved(t *testing.T) {
	for _, there := range []bool{false, true} {
		d := laid(t, api.MaxRoom)
		n, l := 0, list()
		if there {
			n, l = 7, some()
			save(t, d, n, l)
		}
		others := []string{"shelf", "shel.f", "other", "log.1", "x.shelf.", "-", "shelf-1"}
		for _, name := range others {
			lay(t, d, name, []byte("of "+name))
		}
		rest := files(d)
		if n, e := shelf.Sweep(d); n != 0 || e != api.OK {
			t.Errorf("nothing to sweep: %d, %d", n, e)
		}
		for _, name := range []string{"shelf.", "shelf.-", "shelf.old", "shelf.zzz", "shelf.shelf", "shelf.log.1"} {
			lay(t, d, name, []byte("x"))
		}
		load(t, d, n, l)
		if n, e := shelf.Sweep(d); n != 6 || e != api.OK {
			t.Errorf("6 to sweep: %d, %d", n, e)
		}
		if !maps.Equal(rest, files(d)) {
			t.Errorf("the rest: %q", d.Names())
		}
		load(t, d, n, l)
		if n, e := shelf.Sweep(d); n != 0 || e != api.OK {
			t.Errorf("swept already: %d, %d", n, e)
		}
		must(t, "Crash", d.Crash())
		if !maps.Equal(rest, files(d)) {
			t.Errorf("behind a crash: %q", d.Names())
		}
		load(t, d, n, l)
	}
}

// What was removed ahead of a Sweep, and not safely, does not come back behind it.
func TestP11_4BehindACrashTheyStayAway(t *testing.T) {
	d := laid(t, api.MaxRoom)
	save(t, d, 7, some())
	for i := range 5 {
		lay(t, d, fmt.Sprintf("shelf.%d", i), []byte("x"))
	}
	for i := range 5 {
		must(t, "Remove", d.Remove(fmt.Sprintf("shelf.%d", i)))
	}
	if n, e := shelf.Sweep(d); n != 0 || e != api.OK {
		t.Errorf("Sweep: %d, %d", n, e)
	}
	must(t, "Crash", d.Crash())
	if names := shelves(d); len(names) > 2 {
		t.Errorf("behind a crash: %q", names)
	}
	load(t, d, 7, some())
}

func TestP11_4WhatAStoppedSaveLeft(t *testing.T) {
	swept := 0
	for stop := range 12 {
		for names := range 4 {
			d := laid(t, api.MaxRoom)
			save(t, d, 1, one("x"))
			must(t, "Stop", d.Stop(stop))
			shelf.Save(d, 2, some())
			must(t, "Crash", d.Crash(names, 1000, 1000))
			n, l, e := shelf.Load(d)
			must(t, "Load", e)
			before := shelves(d)
			removed, e := shelf.Sweep(d)
			must(t, "Sweep", e)
			swept += removed
			if after := shelves(d); len(after) > 2 || removed != len(before)-len(after) {
				t.Errorf("stop %d: %d were removed, %q to %q", stop, removed, before, after)
			}
			load(t, d, n, l)
			must(t, "Crash", d.Crash())
			load(t, d, n, l)
		}
	}
	if swept == 0 {
		t.Error("nothing was swept")
	}
}

func TestP11_4ADiskThatStops(t *testing.T) {
	for stop := 0; ; stop++ {
		d := laid(t, api.MaxRoom)
		save(t, d, 7, some())
		for i := range 4 {
			lay(t, d, fmt.Sprintf("shelf.%d", i), []byte("x"))
		}
		must(t, "Stop", d.Stop(stop))
		n, e := shelf.Sweep(d)
		if e != api.OK && (n != 0 || e != api.ErrDiskDown) || e == api.OK && n != 4 {
			t.Errorf("stop %d: %d, %d", stop, n, e)
		}
		if (e == api.OK) != (stop >= 5) {
			t.Errorf("stop %d: %d", stop, e)
		}
		for names := range 5 {
			other := d.Clone()
			must(t, "Crash", other.Crash(names))
			load(t, other, 7, some())
			if e == api.OK && len(shelves(other)) > 2 {
				t.Errorf("stop %d: %q", stop, shelves(other))
			}
			if _, e := shelf.Sweep(other); e != api.OK || len(shelves(other)) > 2 {
				t.Errorf("stop %d: %d, %q", stop, e, shelves(other))
			}
			load(t, other, 7, some())
		}
		if !d.Down() {
			break
		}
	}
	d := laid(t, 100)
	must(t, "Stop", d.Stop(0))
	if n, e := shelf.Sweep(d); n != 0 || e != api.ErrDiskDown {
		t.Errorf("a new disk that has stopped: %d, %d", n, e)
	}
}

func TestP11_4ASpoiltFileStays(t *testing.T) {
	d, name, _ := saved(t, 7, some())
	must(t, "Append", d.Append(name, []byte("x")))
	before := files(d)
	lay(t, d, "shelf.1", []byte("x"))
	if n, e := shelf.Sweep(d); n != 1 || e != api.OK || !maps.Equal(before, files(d)) {
		t.Errorf("Sweep: %d, %d, %q", n, e, d.Names())
	}
	spoilt(t, "behind a Sweep", d)
}

// A keeper does Saves on a disk, and holds what Load tells against the words of P11.2 and P11.5.
type keeper struct {
	t    *testing.T
	d    *disk.Disk
	n    int           // of the last Save that answered OK
	l    []api.Archive // and its state
	next []api.Archive // the state of the one that was under way, as the number n + 1
	cut  bool          // whether there was one
	note string
}

func (k *keeper) fail(form string, more ...any) {
	k.t.Helper()
	k.t.Fatalf("%s: %s", k.note, fmt.Sprintf(form, more...))
}

func (k *keeper) add(form string, more ...any) { k.note += " " + fmt.Sprintf(form, more...) }

func (k *keeper) twin() *keeper {
	other := *k
	other.d = k.d.Clone()
	return &other
}

// save tells whether the disk goes on.
func (k *keeper) save(l []api.Archive) bool {
	k.t.Helper()
	before := slices.DeleteFunc(k.d.Names(), func(name string) bool { return strings.HasPrefix(name, "shelf.") })
	e := shelf.Save(k.d, k.n+1, l)
	k.add("save(%d)=%d", k.n+1, e)
	switch {
	case e == api.OK:
		k.n, k.l = k.n+1, l
	case e == api.ErrDiskDown && k.d.Down():
		k.next, k.cut = l, true
		return false
	case e != api.ErrDiskFull && e != api.ErrDiskMany:
		k.fail("Save: %d", e)
	}
	k.look()
	after := slices.DeleteFunc(k.d.Names(), func(name string) bool { return strings.HasPrefix(name, "shelf.") })
	if !k.d.Down() && !slices.Equal(before, after) {
		k.fail("other files: %q, and were %q", after, before)
	}
	return !k.d.Down()
}

func (k *keeper) sweep() bool {
	k.t.Helper()
	n, e := shelf.Sweep(k.d)
	k.add("sweep=%d,%d", n, e)
	if e != api.OK && (n != 0 || e != api.ErrDiskDown || !k.d.Down()) {
		k.fail("Sweep: %d, %d", n, e)
	}
	k.look()
	if names := shelves(k.d); e == api.OK && len(names) > 2 {
		k.fail("Sweep leaves %q", names)
	}
	return !k.d.Down()
}

func (k *keeper) look() {
	k.t.Helper()
	n, l, e := shelf.Load(k.d)
	if k.d.Down() {
		if n != 0 || len(l) != 0 || e != api.ErrDiskDown {
			k.fail("Load of a stopped disk: %d, %d archives, %d", n, len(l), e)
		}
		return
	}
	if n != k.n || e != api.OK || !same(l, k.l) {
		k.fail("Load: %d, %d archives, %d; not %d, %d", n, len(l), e, k.n, len(k.l))
	}
}

// crash settles which of the two states it is from now on.
func (k *keeper) crash(choices ...int) {
	k.t.Helper()
	k.add("crash%v", choices)
	must(k.t, "Crash", k.d.Crash(choices...))
	n, l, e := shelf.Load(k.d)
	if k.cut && e == api.OK && n == k.n+1 && same(l, k.next) {
		k.n, k.l = k.n+1, k.next
	}
	k.cut = false
	k.look()
}

func (k *keeper) log(x string) bool {
	k.t.Helper()
	l, _, e := wal.Open(k.d)
	if e == api.OK {
		_, e = l.Append(x)
	}
	if e == api.OK {
		e = l.Cut(l.Last())
	}
	k.add("log=%d", e)
	k.look()
	return !k.d.Down()
}

func TestP11_5WhereverTheDiskStops(t *testing.T) {
	script := func(k *keeper) {
		steps := []func() bool{
			func() bool { return k.save(one("first")) },
			func() bool { return k.save(some()) },
			func() bool { return k.log(times("x", 20000)) },
			func() bool { return k.save(nil) },
			func() bool { return k.save(row("b", 3)) },
			func() bool { return k.sweep() },
			func() bool { return k.log("y") },
			func() bool { return k.save(one("last")) },
		}
		for _, step := range steps {
			if !step() {
				return
			}
		}
	}
	kinds := map[string]int{}
	for steps := 0; ; steps++ {
		k := &keeper{t: t, d: laid(t, api.MaxRoom)}
		must(t, "Stop", k.d.Stop(steps))
		k.add("stop(%d)", steps)
		script(k)
		ended := !k.d.Down()
		for names := range 6 {
			for _, bytes := range []int{0, 1, 20, 100, 1000000, -1, -5, -60, -1000000} {
				other := k.twin()
				before := other.n
				other.crash(names, bytes, bytes, bytes, bytes)
				if k.cut {
					kinds[fmt.Sprint("the new one: ", other.n != before)]++
				}
				again(other, names, bytes)
			}
		}
		if ended {
			break
		}
	}
	if len(kinds) != 2 {
		t.Errorf("not both states were seen: %v", kinds)
	}
}

// again goes on behind a crash: through another one, a Save that stops at each of its steps, and one that does not.
func again(k *keeper, names, bytes int) {
	k.crash(names, bytes, bytes, bytes)
	for stop := 0; ; stop += 2 {
		other := k.twin()
		must(k.t, "Stop", other.d.Stop(stop))
		other.add("stop(%d)", stop)
		other.save(one("again"))
		ended := !other.d.Down()
		other.crash(names+stop, bytes, bytes, bytes)
		other.save(one("further"))
		other.crash(names, bytes)
		if ended {
			return
		}
	}
}

func choices(x *rand.Rand) []int {
	out := make([]int, x.IntN(8))
	for i := range out {
		switch x.IntN(5) {
		case 0:
			out[i] = x.IntN(5)
		case 1:
			out[i] = -1 - x.IntN(60)
		case 2:
			out[i] = x.IntN(60)
		case 3:
			out[i] = int(x.Uint64())
		}
	}
	return out
}

// litter lets others make and remove files, among them such as only a Sweep removes.
func (k *keeper) litter(x *rand.Rand) {
	name := fmt.Sprintf([]string{"other%d", "shelf.o%d", "shelfo%d"}[x.IntN(3)], x.IntN(9))
	k.add("litter(%s)", name)
	if k.d.Create(name) != api.OK {
		k.d.Remove(name)
		return
	}
	k.d.Append(name, []byte(data(x)))
	if x.IntN(2) == 0 {
		k.d.SyncDir()
	}
}

func TestP11_5MixedCallsStopsAndCrashes(t *testing.T) {
	for seed := range uint64(150) {
		x := mixed(seed)
		room := []int{300, 2000, 9000, 30000, api.MaxRoom}[seed%5]
		k := &keeper{t: t, d: laid(t, room)}
		k.add("seed %d, room %d:", seed, room)
		for range 60 {
			if k.d.Down() {
				k.crash(choices(x)...)
				continue
			}
			switch x.IntN(12) {
			case 0:
				k.sweep()
			case 1:
				k.crash(choices(x)...)
			case 2, 3, 4:
				n := x.IntN(12)
				k.add("stop(%d)", n)
				must(t, "Stop", k.d.Stop(n))
			case 5:
				k.log(data(x))
			case 6:
				k.litter(x)
			default:
				k.save(state(x, 2, 2, 3))
			}
			if x.IntN(3) == 0 {
				other := k.twin()
				other.crash(choices(x)...)
				other.crash(choices(x)...)
			}
		}
	}
}

func TestR1TheFirstOfSeveralErrors(t *testing.T) {
	d := laid(t, 1)
	must(t, "Stop", d.Stop(0))
	if e := shelf.Save(nil, -1, list(box("A", "x"))); e != api.ErrNil {
		t.Errorf("a nil disk: %d", e)
	}
	if e := shelf.Save(d, -1, list(with(times("x", 8193)))); e != api.ErrArg {
		t.Errorf("a number ahead of a list: %d", e)
	}
	if e := shelf.Save(d, 1, list(with(times("x", 8193)))); e != api.ErrLong {
		t.Errorf("a list ahead of the disk: %d", e)
	}
	if e := shelf.Save(d, 1, list(box("a", "x"))); e != api.ErrArg {
		t.Errorf("a list ahead of the disk: %d", e)
	}
	if e := shelf.Save(d, 1, nil); e != api.ErrDiskDown {
		t.Errorf("a stopped disk: %d", e)
	}
}

// Whatever stands in shelf's files, calls end.
func TestR1WhateverStandsInFiles(t *testing.T) {
	d, name, b := saved(t, 7, some())
	for seed := range uint64(3000) {
		x := mixed(seed)
		other := slices.Clone(b[:len(b)-4])
		for range 1 + x.IntN(3) {
			other[x.IntN(len(other))] = byte(x.Uint32())
		}
		if x.IntN(3) == 0 {
			other = other[:x.IntN(len(other))]
		}
		lay(t, d, name, forged(other))
		n, l, e := shelf.Load(d)
		if e != api.OK && (n != 0 || len(l) != 0 || e != api.ErrShelfSpoilt) {
			t.Fatalf("seed %d: %d, %v, %d", seed, n, l, e)
		}
		if e == api.OK && (n < 0 || n > api.MaxTime || shelf.Check(l) != api.OK) {
			t.Fatalf("seed %d: %d, %v", seed, n, l)
		}
	}
}

// copied is a list that shares no memory with l.
func copied(l []api.Archive) []api.Archive {
	out := slices.Clone(l)
	for i := range out {
		out[i].Entries = slices.Clone(l[i].Entries)
	}
	return out
}

func TestR2WhatIsHandedInStaysAndIsNotKept(t *testing.T) {
	roomy := make([]api.Archive, 0, 10)
	roomy = append(roomy, some()...)
	for i := range roomy {
		roomy[i].Entries = slices.Grow(roomy[i].Entries, 5)
	}
	spare := func() []any {
		out := []any{roomy[:cap(roomy)][len(roomy)]}
		for _, a := range roomy {
			out = append(out, a.Entries[:cap(a.Entries)][len(a.Entries)])
		}
		return out
	}
	before := spare()
	d := laid(t, api.MaxRoom)
	must(t, "Check", shelf.Check(roomy))
	save(t, d, 7, roomy)
	if !reflect.DeepEqual(roomy, some()) || !reflect.DeepEqual(before, spare()) {
		t.Error("the list was written into")
	}
	for i := range roomy {
		for j := range roomy[i].Entries {
			roomy[i].Entries[j] = api.Entry{Name: "other", Data: "other"}
		}
		roomy[i] = box("o", "o", "o")
	}
	load(t, d, 7, some())
}

func TestR2WhatComesOutIsNew(t *testing.T) {
	d := laid(t, api.MaxRoom)
	save(t, d, 7, some())
	_, l, _ := shelf.Load(d)
	_, m, _ := shelf.Load(d)
	for i := range l {
		l[i].Entries = append(l[i].Entries, api.Entry{Name: "more"})
		for j := range l[i].Entries {
			l[i].Entries[j] = api.Entry{Name: "other", Data: "other"}
		}
	}
	l = append(l[:1], box("o", "o", "o"))
	if !reflect.DeepEqual(m, some()) {
		t.Errorf("another answer was changed: %v", m)
	}
	for i := range m {
		rest := copied(m[i+1:])
		m[i].Entries = append(m[i].Entries, api.Entry{Name: "more"})
		if !same(rest, m[i+1:]) {
			t.Errorf("lists of one answer share memory")
		}
	}
	load(t, d, 7, some())
	if len(l) != 2 {
		t.Error("a list of two")
	}
}

func TestR2DisksKnowNothingOfOneAnother(t *testing.T) {
	a, b := laid(t, api.MaxRoom), laid(t, api.MaxRoom)
	save(t, a, 1, one("a"))
	load(t, b, 0, nil)
	save(t, b, 2, some())
	load(t, a, 1, one("a"))
	c := a.Clone()
	save(t, c, 3, nil)
	load(t, a, 1, one("a"))
	load(t, b, 2, some())
}

// The same calls leave the same files.
func TestR2NothingElseCounts(t *testing.T) {
	var first map[string]string
	for i := range 5 {
		d := laid(t, 5000)
		for n, l := range [][]api.Archive{some(), one(times("x", 8192)), row("a", 16), some()} {
			shelf.Save(d, n, l)
		}
		must(t, "Stop", d.Stop(4))
		shelf.Save(d, 9, some())
		must(t, "Crash", d.Crash(1, 1000, 1000))
		if i == 0 {
			first = files(d)
		} else if !maps.Equal(first, files(d)) {
			t.Fatalf("run %d: other files", i)
		}
	}
}

func TestR3NilDisks(t *testing.T) {
	for _, n := range []int{0, 1, -1} {
		for _, l := range [][]api.Archive{nil, some(), list(box("A", "x"))} {
			if e := shelf.Save(nil, n, l); e != api.ErrNil {
				t.Errorf("Save(%d): %d", n, e)
			}
		}
	}
	if n, l, e := shelf.Load(nil); n != 0 || len(l) != 0 || e != api.ErrNil {
		t.Errorf("Load: %d, %v, %d", n, l, e)
	}
	if n, e := shelf.Sweep(nil); n != 0 || e != api.ErrNil {
		t.Errorf("Sweep: %d, %d", n, e)
	}
}
