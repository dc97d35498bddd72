package zip_test

import (
	stdzip "archive/zip"
	"bytes"
	"encoding/binary"
	"encoding/hex"
	"fmt"
	"hash/crc32"
	"io"
	"math/rand/v2"
	"regexp"
	"slices"
	"strings"
	"testing"

	"haversack/api"
	"haversack/deflate"
	"haversack/inflate"
	"haversack/zip"
)

// mixed tells numbers that look mixed and are the same in each run.
func mixed(seed uint64) *rand.Rand { return rand.New(rand.NewPCG(seed, 8)) }

func unhex(text string) []byte {
	out, err := hex.DecodeString(strings.ReplaceAll(text, " ", ""))
	if err != nil {
		panic(err)
	}
	return out
}

func entry(name, data string) api.Entry { return api.Entry{Name: name, Data: data} }

func entries(l ...api.Entry) []api.Entry { return l }

func times(s string, n int) string { return strings.Repeat(s, n) }

// numbered are n entries without bytes, each of another name.
func numbered(n int) []api.Entry {
	var out []api.Entry
	for i := range n {
		out = append(out, entry(fmt.Sprintf("n%d", i), ""))
	}
	return out
}

func mixedText(r *rand.Rand, n, letters int) string {
	out := make([]byte, n)
	for i := range out {
		out[i] = byte(r.IntN(letters))
	}
	return string(out)
}

// mixedName is a name that may be.
func mixedName(r *rand.Rand) string {
	for {
		out := make([]byte, 1+r.IntN(1+r.IntN(64)))
		for i := range out {
			out[i] = "abcdefghijklmnopqrstuvwxyz0123456789._-/"[r.IntN(40)]
		}
		if mayBe(string(out)) {
			return string(out)
		}
	}
}

// mixedEntries are at most so many entries that may be written.
func mixedEntries(r *rand.Rand, most, size int) []api.Entry {
	var out []api.Entry
	for range r.IntN(most + 1) {
		name := mixedName(r)
		if !slices.ContainsFunc(out, func(x api.Entry) bool { return x.Name == name }) {
			out = append(out, entry(name, mixedText(r, r.IntN(size+1), 1+r.IntN(256))))
		}
	}
	return out
}

// deflated needs at most 16384 bytes.
func deflated(data string) []byte {
	out, e := deflate.Deflate([]byte(data))
	if e != api.OK {
		panic(e)
	}
	return out
}

// field is a number in a file, of so many bytes.
type field struct {
	word  string
	width int
	value uint64
	free  bool // read, it may be any
}

func two(word string, value int) field { return field{word: word, width: 2, value: uint64(value)} }

func four(word string, value int) field { return field{word: word, width: 4, value: uint64(value)} }

func free(f field) field {
	f.free = true
	return f
}

// part is a head, a record or an end: its fields, and the name behind them.
type part struct {
	fields []field
	name   string
}

func (p *part) at(word string) *uint64 {
	i := slices.IndexFunc(p.fields, func(f field) bool { return f.word == word })
	return &p.fields[i].value
}

func (p *part) set(word string, value int) { *p.at(word) = uint64(value) }

func (p *part) bytes() []byte {
	var out []byte
	for _, f := range p.fields {
		var b [8]byte
		binary.LittleEndian.PutUint64(b[:], f.value)
		out = append(out, b[:f.width]...)
	}
	return append(out, p.name...)
}

// made is an entry as it comes into a file.
type made struct {
	name   string
	way    int
	data   string
	packed []byte
}

func asItIs(name, data string) made { return made{name: name, data: data, packed: []byte(data)} }

func byDeflate(name, data string) made {
	return made{name: name, way: 8, data: data, packed: deflated(data)}
}

// both are the fields that a head and a record have alike.
func (m made) both() []field {
	return []field{
		free(two("version", 20)), two("flags", 0), two("way", m.way), free(two("time", 0)), free(two("day", 33)),
		four("sum", int(crc32.ChecksumIEEE([]byte(m.data)))), four("packed", len(m.packed)), four("size", len(m.data)),
		two("long", len(m.name)), two("further", 0),
	}
}

func (m made) head() part {
	return part{fields: slices.Concat([]field{four("sign", 0x04034b50)}, m.both()), name: m.name}
}

func (m made) record() part {
	return part{name: m.name, fields: slices.Concat(
		[]field{four("sign", 0x02014b50), free(two("wrote", 20))}, m.both(),
		[]field{two("remarks", 0), two("file", 0), free(two("inner", 0)), free(four("outer", 0)), four("place", 0)})}
}

// plan is a file that is not laid yet, so that each of its fields can be turned.
type plan struct {
	heads   []part
	gaps    [][]byte // ahead of each piece
	packed  [][]byte
	tween   []byte // behind the pieces
	records []part
	behind  []byte // behind the records
	end     part
}

// planned is the file of these entries, all as the form says.
func planned(l ...made) *plan {
	p := &plan{end: part{fields: []field{
		four("sign", 0x06054b50), two("file", 0), two("firstfile", 0), two("count", len(l)), two("again", len(l)),
		four("bytes", 0), four("first", 0), two("remarks", 0),
	}}}
	for _, m := range l {
		p.heads = append(p.heads, m.head())
		p.gaps = append(p.gaps, nil)
		p.packed = append(p.packed, m.packed)
		p.records = append(p.records, m.record())
	}
	p.place()
	return p
}

func (p *plan) piece(i int) []byte { return slices.Concat(p.heads[i].bytes(), p.packed[i]) }

// place tells the records and the end where all stands, gaps counted in.
func (p *plan) place() {
	at := 0
	for i := range p.heads {
		at += len(p.gaps[i])
		p.records[i].set("place", at)
		at += len(p.piece(i))
	}
	p.end.set("first", at+len(p.tween))
	p.end.set("bytes", len(p.laidRecords())+len(p.behind))
}

func (p *plan) laidRecords() []byte {
	var out []byte
	for i := range p.records {
		out = append(out, p.records[i].bytes()...)
	}
	return out
}

func (p *plan) bytes() []byte {
	var out []byte
	for i := range p.heads {
		out = slices.Concat(out, p.gaps[i], p.piece(i))
	}
	return slices.Concat(out, p.tween, p.laidRecords(), p.behind, p.end.bytes())
}

// both does something to an entry's head and to its record.
func (p *plan) both(i int, do func(*part)) {
	do(&p.heads[i])
	do(&p.records[i])
}

// rename gives an entry another name, all else as the form says.
func (p *plan) rename(i int, name string) {
	p.both(i, func(x *part) {
		x.name = name
		x.set("long", len(name))
	})
	p.place()
}

// three is a file of three entries, of both ways and of no bytes.
func three() *plan {
	return planned(asItIs("b", "one"), byDeflate("a/long", times("x", 100)), asItIs("z", ""))
}

func threeEntries() []api.Entry {
	return entries(entry("b", "one"), entry("a/long", times("x", 100)), entry("z", ""))
}

var nameForm = regexp.MustCompile(`^[a-z0-9._-]+(/[a-z0-9._-]+)*$`)

// mayBe is P8.1 word by word.
func mayBe(s string) bool {
	parts := strings.Split(s, "/")
	return len(s) <= 64 && nameForm.MatchString(s) && !slices.Contains(parts, ".") && !slices.Contains(parts, "..")
}

// seen is what a file tells of an entry.
type seen struct {
	api.Info
	packed []byte
}

func u16(b []byte, at int) int { return int(binary.LittleEndian.Uint16(b[at:])) }

func u32(b []byte, at int) int { return int(binary.LittleEndian.Uint32(b[at:])) }

// slowList is P8.3 word by word, by the places of the fields.
func slowList(b []byte) ([]seen, api.Errno) {
	if len(b) > 1048576 {
		return nil, api.ErrLong
	}
	if len(b) < 22 {
		return nil, api.ErrZipForm
	}
	endAt := len(b) - 22
	end := b[endAt:]
	count, long, first := u16(end, 8), u32(end, 12), u32(end, 16)
	if u32(end, 0) != 0x06054b50 || u16(end, 4) != 0 || u16(end, 6) != 0 || u16(end, 10) != count ||
		first+long != endAt || u16(end, 20) != 0 {
		return nil, api.ErrZipForm
	}
	if count > 64 {
		return nil, api.ErrZipMany
	}
	var out []seen
	at, pieceAt := first, 0
	for range count {
		x, next, e := slowRecord(b[:endAt], at, pieceAt, first, out)
		if e != api.OK {
			return nil, e
		}
		out = append(out, x)
		at, pieceAt = next, pieceAt+30+len(x.Name)+x.Packed
	}
	if at != endAt || pieceAt != first {
		return nil, api.ErrZipForm
	}
	return out, api.OK
}

// slowRecord reads the record at a place of b, which has nothing of the end, and tells where the next one is.
func slowRecord(b []byte, at, pieceAt, first int, ahead []seen) (seen, int, api.Errno) {
	if len(b)-at < 46 || len(b)-at < 46+u16(b, at+28) {
		return seen{}, 0, api.ErrZipForm
	}
	r := b[at : at+46+u16(b, at+28)]
	if u32(r, 0) != 0x02014b50 || u16(r, 8) != 0 || u16(r, 30) != 0 || u16(r, 32) != 0 || u16(r, 34) != 0 {
		return seen{}, 0, api.ErrZipForm
	}
	x := api.Info{Name: string(r[46:]), Size: u32(r, 24), Packed: u32(r, 20), Sum: uint32(u32(r, 16)), Way: u16(r, 10)}
	for _, y := range ahead {
		if y.Name == x.Name {
			return seen{}, 0, api.ErrZipName
		}
	}
	switch {
	case !mayBe(x.Name):
		return seen{}, 0, api.ErrZipName
	case x.Way != 0 && x.Way != 8:
		return seen{}, 0, api.ErrZipWay
	case x.Size > 8192 || x.Packed > 16384:
		return seen{}, 0, api.ErrZipLarge
	case x.Way == 0 && x.Size != x.Packed, u32(r, 42) != pieceAt, pieceAt+30+len(x.Name)+x.Packed > first:
		return seen{}, 0, api.ErrZipForm
	}
	h := b[pieceAt:first]
	if u32(h, 0) != 0x04034b50 || u16(h, 6) != 0 || u16(h, 28) != 0 || u16(h, 8) != x.Way || u32(h, 14) != int(x.Sum) ||
		u32(h, 22) != x.Size || u32(h, 18) != x.Packed || u16(h, 26) != len(x.Name) || string(h[30:30+len(x.Name)]) != x.Name {
		return seen{}, 0, api.ErrZipForm
	}
	return seen{x, h[30+len(x.Name):][:x.Packed]}, at + len(r), api.OK
}

// slowData is what P8.4 says of one entry.
func slowData(x seen) (string, api.Errno) {
	data := x.packed
	if x.Way == 8 {
		out, read, e := inflate.Inflate(x.packed, x.Size)
		if e != api.OK || read < len(x.packed) || len(out) < x.Size {
			return "", api.ErrZipData
		}
		data = out
	}
	if crc32.ChecksumIEEE(data) != x.Sum {
		return "", api.ErrZipSum
	}
	return string(data), api.OK
}

func slowRead(b []byte) ([]api.Entry, api.Errno) {
	l, e := slowList(b)
	if e != api.OK {
		return nil, e
	}
	var out []api.Entry
	for _, x := range l {
		data, e := slowData(x)
		if e != api.OK {
			return nil, e
		}
		out = append(out, entry(x.Name, data))
	}
	return out, api.OK
}

func slowFind(b []byte, name string) (string, api.Errno) {
	l, e := slowList(b)
	if e != api.OK {
		return "", e
	}
	for _, x := range l {
		if x.Name == name {
			return slowData(x)
		}
	}
	return "", api.ErrZipNone
}

// slowWrite is P8.2 word by word, of entries that may be written.
func slowWrite(l []api.Entry) []byte {
	var out []made
	for _, x := range l {
		m := byDeflate(x.Name, x.Data)
		if len(m.packed) >= len(x.Data) {
			m = asItIs(x.Name, x.Data)
		}
		out = append(out, m)
	}
	return planned(out...).bytes()
}

func infos(l []seen) []api.Info {
	var out []api.Info
	for _, x := range l {
		out = append(out, x.Info)
	}
	return out
}

// holdAgainst holds all that is read of b against the slow readings.
func holdAgainst(t *testing.T, what string, b []byte) api.Errno {
	t.Helper()
	want, wantE := slowList(b)
	got, e := zip.List(b)
	if e != wantE || !slices.Equal(got, infos(want)) {
		t.Fatalf("%s: List: %v, %d, want %v, %d: %x", what, got, e, infos(want), wantE, short(b))
	}
	read, readE := slowRead(b)
	l, e := zip.Read(b)
	if e != readE || !slices.Equal(l, read) {
		t.Fatalf("%s: Read: %d, want %d: %x", what, e, readE, short(b))
	}
	names := []string{"none", ""}
	for _, x := range want {
		names = append(names, x.Name)
	}
	for _, name := range names {
		data, dataE := slowFind(b, name)
		if s, e := zip.Find(b, name); e != dataE || s != data {
			t.Fatalf("%s: Find of %q: %d, want %d: %x", what, name, e, dataE, short(b))
		}
	}
	return readE
}

func short(b []byte) []byte { return b[:min(len(b), 400)] }

// refused holds that nothing is read of b, of whatever name.
func refused(t *testing.T, what string, b []byte, want api.Errno) {
	t.Helper()
	if l, e := zip.List(b); e != want || len(l) != 0 {
		t.Errorf("%s: List: %v, %d, want %d", what, l, e, want)
	}
	unread(t, what, b, want)
	for _, name := range []string{"none", "b", "a/long", "z"} {
		if s, e := zip.Find(b, name); e != want || s != "" {
			t.Errorf("%s: Find of %s: %q, %d, want %d", what, name, s, e, want)
		}
	}
}

func unread(t *testing.T, what string, b []byte, want api.Errno) {
	t.Helper()
	if l, e := zip.Read(b); e != want || len(l) != 0 {
		t.Errorf("%s: Read: %v, %d, want %d", what, l, e, want)
	}
}

// taken holds that these entries are read of b, in this order, and each one is found.
func taken(t *testing.T, what string, b []byte, want []api.Entry) {
	t.Helper()
	if l, e := zip.Read(b); e != api.OK || !slices.Equal(l, want) {
		t.Errorf("%s: Read: %v, %d", what, l, e)
	}
	l, e := zip.List(b)
	if e != api.OK || len(l) != len(want) {
		t.Fatalf("%s: List: %v, %d", what, l, e)
	}
	for i, x := range want {
		if l[i].Name != x.Name || l[i].Size != len(x.Data) || l[i].Sum != crc32.ChecksumIEEE([]byte(x.Data)) {
			t.Errorf("%s: List: %v of %s", what, l[i], x.Name)
		}
		if s, e := zip.Find(b, x.Name); e != api.OK || s != x.Data {
			t.Errorf("%s: Find of %s: %d", what, x.Name, e)
		}
	}
}

// written needs entries that may be written.
func written(t *testing.T, l []api.Entry) []byte {
	t.Helper()
	b, e := zip.Write(l)
	if e != api.OK {
		t.Fatalf("%d", e)
	}
	return b
}

func TestP8_1Names(t *testing.T) {
	for _, s := range []string{
		"a", "z", "0", "9", "-", "_", "a/b.txt", "...", ".a", "a.", "..a", "a..", "a/.../b", "a/..b", "-/_/0",
		times("a", 64), times("a/", 31) + "bc", times(".", 64),
	} {
		if !zip.Name(s) {
			t.Errorf("%q may be", s)
		}
	}
	for _, s := range []string{
		"", "/", "//", "/a", "a/", "a//b", ".", "..", "./a", "../a", "a/.", "a/..", "a/./b", "a/../b", "A", "a b", "a\\b",
		"a\x00", "é", "a/é", "\xff", "a:b", "a`", "a{", "aZb", "a\n", " a", "a ", "a,b", "^", "@", "[", "+",
		times("a", 65), times("a/", 32) + "b", times("a", 1000),
	} {
		if zip.Name(s) {
			t.Errorf("%q may not be", s)
		}
	}
}

func TestP8_1EachByteAloneAndBetweenOthers(t *testing.T) {
	for x := range 256 {
		for _, s := range []string{string([]byte{byte(x)}), "a" + string([]byte{byte(x)}) + "b", "a/" + string([]byte{byte(x)})} {
			if zip.Name(s) != mayBe(s) {
				t.Errorf("%q: %v", s, zip.Name(s))
			}
		}
	}
}

func TestP8_1AllNamesOfFewLetters(t *testing.T) {
	names := []string{""}
	for range 7 {
		var longer []string
		for _, s := range names {
			if zip.Name(s) != mayBe(s) {
				t.Errorf("%q: %v", s, zip.Name(s))
			}
			longer = append(longer, s+"a", s+".", s+"/", s+"A")
		}
		names = longer
	}
}

func TestP8_2Examples(t *testing.T) {
	if b := written(t, nil); !bytes.Equal(b, unhex("504b0506"+times("00", 18))) {
		t.Errorf("none: %x", b)
	}
	b := written(t, entries(entry("a", "")))
	if len(b) != 30+1+46+1+22 {
		t.Errorf("%d bytes", len(b))
	}
	if l, e := zip.List(b); e != api.OK || !slices.Equal(l, []api.Info{{Name: "a"}}) {
		t.Errorf("%v, %d", l, e)
	}
	b = written(t, entries(entry("a", times("x", 100))))
	if l, e := zip.List(b); e != api.OK || l[0].Way != 8 {
		t.Errorf("%v, %d", l, e)
	}
}

func TestP8_2TheFileByteByByte(t *testing.T) {
	b := written(t, entries(entry("b", "one"), entry("a/x", times("a", 7))))
	want := unhex("504b0304 1400 0000 0000 0000 2100 f1866c7a 03000000 03000000 0100 0000 62 6f6e65" +
		"504b0304 1400 0000 0800 0000 2100 74208b5b 04000000 07000000 0300 0000 612f78 4b840000" +
		"504b0102 1400 1400 0000 0000 0000 2100 f1866c7a 03000000 03000000 0100 0000 0000 0000 0000 00000000 00000000 62" +
		"504b0102 1400 1400 0000 0800 0000 2100 74208b5b 04000000 07000000 0300 0000 0000 0000 0000 00000000 22000000 612f78" +
		"504b0506 0000 0000 0200 0200 60000000 47000000 0000")
	if !bytes.Equal(b, want) {
		t.Errorf("%x, want %x", b, want)
	}
}

func TestP8_2FilesAsTheFormSays(t *testing.T) {
	r := mixed(1)
	for i := range 300 {
		l := mixedEntries(r, 6, 300)
		if b := written(t, l); !bytes.Equal(b, slowWrite(l)) {
			t.Fatalf("%d: %v", i, l)
		}
	}
}

func TestP8_2TheFewerBytes(t *testing.T) {
	smaller, larger := times("x", 100), "abcdefgh"
	asMany := "aaaa"
	for _, c := range []struct {
		data string
		way  int
	}{{"", 0}, {"a", 0}, {"aaa", 0}, {asMany, 0}, {asMany + "a", 8}, {smaller, 8}, {larger, 0}, {times("x", 8192), 8},
		{mixedText(mixed(2), 8192, 256), 0}, {mixedText(mixed(3), 8192, 16), 8}} {
		l, e := zip.List(written(t, entries(entry("a", c.data))))
		packed := len(c.data)
		if c.way == 8 {
			packed = len(deflated(c.data))
		}
		if e != api.OK || l[0].Way != c.way || l[0].Packed != packed || l[0].Size != len(c.data) {
			t.Errorf("%.20q: %v, %d", c.data, l, e)
		}
	}
	if len(deflated(asMany)) != len(asMany) || len(deflated(smaller)) >= len(smaller) || len(deflated(larger)) <= len(larger) {
		t.Error("deflate tells other bytes than this test means")
	}
}

// TestP8_2AsManyBytes holds that deflated bytes must be fewer: with just as many the entry stays as it is.
func TestP8_2AsManyBytes(t *testing.T) {
	r := mixed(4)
	found := 0
	for range 3000 {
		data := mixedText(r, 1+r.IntN(12), 2)
		if len(deflated(data)) != len(data) {
			continue
		}
		found++
		if l, _ := zip.List(written(t, entries(entry("a", data)))); l[0].Way != 0 || l[0].Packed != len(data) {
			t.Fatalf("%x: %v", data, l)
		}
	}
	if found < 20 {
		t.Errorf("only %d", found)
	}
}

func TestP8_2Refused(t *testing.T) {
	large := times("x", 8193)
	good := entry("good", "data")
	for _, c := range []struct {
		what string
		l    []api.Entry
		want api.Errno
	}{
		{"two of one name", entries(entry("a", ""), entry("a", "")), api.ErrZipName},
		{"two of one name, others between", entries(entry("a", ""), good, entry("b", ""), entry("a", "")), api.ErrZipName},
		{"a name with an end that may not be", entries(entry("a/", "")), api.ErrZipName},
		{"no name", entries(entry("", "")), api.ErrZipName},
		{"a name of 65", entries(good, entry(times("a", 65), "")), api.ErrZipName},
		{"8193 bytes", entries(entry("a", large)), api.ErrZipLarge},
		{"a name and 8193 bytes", entries(entry("A", large)), api.ErrZipName},
		{"twice, and 8193 bytes", entries(good, entry("good", large)), api.ErrZipName},
		{"8193 bytes, then a name", entries(good, entry("a", large), entry("A", "")), api.ErrZipLarge},
		{"8193 bytes, then twice", entries(entry("a", large), entry("a", "")), api.ErrZipLarge},
		{"a name, then 8193 bytes", entries(entry("A", ""), entry("a", large)), api.ErrZipName},
		{"65", numbered(65), api.ErrZipMany},
		{"65, a name that may not be ahead", append(entries(entry("A", large)), numbered(64)...), api.ErrZipMany},
		{"65, two of one name", append(numbered(64), entry("n0", "")), api.ErrZipMany},
		{"1000", numbered(1000), api.ErrZipMany},
		{"64, the last of a name that stands there", append(numbered(63), entry("n0", "")), api.ErrZipName},
		{"64, the last too large", append(numbered(63), entry("a", large)), api.ErrZipLarge},
	} {
		if b, e := zip.Write(c.l); e != c.want || len(b) != 0 {
			t.Errorf("%s: %d bytes, %d, want %d", c.what, len(b), e, c.want)
		}
	}
}

func TestP8_2JustAsMuchAsMayBe(t *testing.T) {
	full := numbered(64)
	r := mixed(5)
	for i := range full {
		full[i].Name = fmt.Sprintf("%02d%s", i, times("n", 62))
		full[i].Data = mixedText(r, 8192, 256)
	}
	for _, l := range [][]api.Entry{
		nil, numbered(1), numbered(64), full,
		entries(entry("a", times("x", 8192))), entries(entry(times("a", 64), "data")), entries(entry("a", ""), entry("b", "")),
	} {
		b := written(t, l)
		taken(t, fmt.Sprint(len(l), " entries"), b, l)
		if len(b) > api.MaxZip {
			t.Errorf("%d bytes", len(b))
		}
	}
}

func TestP8_3Examples(t *testing.T) {
	refused(t, "21 bytes", make([]byte, 21), api.ErrZipForm)
	none := written(t, nil)
	refused(t, "none, and one byte more", append(none, 0), api.ErrZipForm)
	refused(t, "one byte more ahead", append([]byte{0}, none...), api.ErrZipForm)
	taken(t, "none", none, nil)
}

func TestP8_3FewBytes(t *testing.T) {
	for n := range 60 {
		b := bytes.Repeat([]byte{0}, n)
		refused(t, "noughts", b, api.ErrZipForm)
		none := planned().bytes()
		refused(t, "an end's last bytes", none[len(none)-min(n, 21):], api.ErrZipForm)
	}
	refused(t, "nil", nil, api.ErrZipForm)
}

func TestP8_3WhatIsTold(t *testing.T) {
	p := three()
	l, e := zip.List(p.bytes())
	sum := func(s string) uint32 { return crc32.ChecksumIEEE([]byte(s)) }
	if want := []api.Info{
		{Name: "b", Size: 3, Packed: 3, Sum: sum("one")},
		{Name: "a/long", Size: 100, Packed: len(p.packed[1]), Sum: sum(times("x", 100)), Way: 8},
		{Name: "z"},
	}; e != api.OK || !slices.Equal(l, want) {
		t.Errorf("%v, %d", l, e)
	}
	taken(t, "three", p.bytes(), threeEntries())
}

// hugeBy makes packed bytes of just n, which say size noughts: blocks of none, the last one with the noughts.
func hugeBy(n, size int) []byte {
	last := slices.Concat([]byte{1, byte(size), byte(size >> 8), byte(^size), byte(^size >> 8)}, make([]byte, size))
	left := n - len(last)
	sixes := left % 5 // of a fixed block and one as it is, so that blocks as they are fill the rest
	return slices.Concat(bytes.Repeat(unhex("02 00 0000 ffff"), sixes), bytes.Repeat(unhex("00 0000 ffff"), (left-6*sixes)/5), last)
}

func TestP8_3AsManyBytesAsMayBe(t *testing.T) {
	refused(t, "1048576 noughts", make([]byte, 1048576), api.ErrZipForm)
	refused(t, "1048577 noughts", make([]byte, 1048577), api.ErrLong)
	var l []made
	var want []api.Entry
	long := 22
	for i := range 64 {
		n := min(16384, 1048576-long-30-46-4)
		m := made{name: fmt.Sprintf("%02d", i), way: 8, data: times("\x00", 7), packed: hugeBy(n, 7)}
		l = append(l, m)
		want = append(want, entry(m.name, m.data))
		long += 30 + 46 + 4 + n
		if long == 1048576 {
			break
		}
	}
	b := planned(l...).bytes()
	if len(b) != 1048576 {
		t.Fatalf("%d bytes", len(b))
	}
	taken(t, "1048576", b, want)
	last := &l[len(l)-1]
	last.packed = hugeBy(len(last.packed)+1, 7)
	b = planned(l...).bytes()
	if len(b) != 1048577 {
		t.Fatalf("%d bytes", len(b))
	}
	refused(t, "1048577", b, api.ErrLong)
}

// turns are a field's values one above and one below it, in its own width.
func turns(f field) []uint64 {
	all := uint64(1)<<(8*f.width) - 1
	return []uint64{(f.value + 1) & all, (f.value - 1) & all}
}

// anys are what a field may be that may be any.
func anys(f field) []uint64 {
	all := uint64(1)<<(8*f.width) - 1
	return append(turns(f), 0, 1, all, all>>1+1)
}

func TestP8_3EachFieldOfAnEndTurned(t *testing.T) {
	for i, f := range three().end.fields {
		for _, v := range turns(f) {
			p := three()
			p.end.fields[i].value = v
			refused(t, fmt.Sprint("end: ", f.word, " ", v), p.bytes(), api.ErrZipForm)
		}
	}
}

func TestP8_3EachFieldOfAHeadTurned(t *testing.T) {
	for entry := range 3 {
		for i, f := range three().heads[entry].fields {
			for _, v := range turns(f) {
				p := three()
				p.heads[entry].fields[i].value = v
				what := fmt.Sprint("head ", entry, ": ", f.word, " ", v)
				if f.free {
					taken(t, what, p.bytes(), threeEntries())
				} else {
					refused(t, what, p.bytes(), api.ErrZipForm)
				}
			}
		}
	}
}

// turnedRecord is what the chapter says of a record's field, in a file of three, that says v.
func turnedRecord(entry int, f field, v uint64) api.Errno {
	switch {
	case f.free:
		return api.OK
	case f.word == "way":
		return api.ErrZipWay
	case f.word == "packed" && v > 16384, f.word == "size" && v > 8192:
		return api.ErrZipLarge
	case f.word == "long" && v == 0:
		return api.ErrZipName
	case f.word == "long" && v > f.value && entry < 2: // with the first byte of the next record, which is a P
		return api.ErrZipName
	}
	return api.ErrZipForm
}

func TestP8_3EachFieldOfARecordTurned(t *testing.T) {
	for entry := range 3 {
		for i, f := range three().records[entry].fields {
			for _, v := range turns(f) {
				p := three()
				p.records[entry].fields[i].value = v
				what := fmt.Sprint("record ", entry, ": ", f.word, " ", v)
				if want := turnedRecord(entry, f, v); want == api.OK {
					taken(t, what, p.bytes(), threeEntries())
				} else {
					refused(t, what, p.bytes(), want)
				}
			}
		}
	}
}

func TestP8_3FieldsThatMayBeAny(t *testing.T) {
	count := 0
	for entry := range 3 {
		for _, pick := range []func(*plan) *part{
			func(p *plan) *part { return &p.heads[entry] },
			func(p *plan) *part { return &p.records[entry] },
		} {
			for i, f := range pick(three()).fields {
				if !f.free {
					continue
				}
				for _, v := range anys(f) {
					p := three()
					pick(p).fields[i].value = v
					taken(t, fmt.Sprint(f.word, " ", v), p.bytes(), threeEntries())
					count++
				}
			}
		}
	}
	if count != 3*(3+6)*6 {
		t.Errorf("%d", count)
	}
}

func TestP8_3EachBitTurned(t *testing.T) {
	b := three().bytes()
	for i := range b {
		for bit := range 8 {
			c := bytes.Clone(b)
			c[i] ^= 1 << bit
			holdAgainst(t, fmt.Sprint("bit ", bit, " of byte ", i), c)
		}
	}
}

func TestP8_3NumbersOfRecords(t *testing.T) {
	set := func(n int) func(*plan) {
		return func(p *plan) {
			p.end.set("count", n)
			p.end.set("again", n)
		}
	}
	for n, want := range map[int]api.Errno{
		0: api.ErrZipForm, 1: api.ErrZipForm, 2: api.ErrZipForm, 3: api.OK, 4: api.ErrZipForm, 64: api.ErrZipForm,
		65: api.ErrZipMany, 66: api.ErrZipMany, 256: api.ErrZipMany, 65535: api.ErrZipMany,
	} {
		p := three()
		set(n)(p)
		if _, e := zip.List(p.bytes()); e != want {
			t.Errorf("%d: %d, want %d", n, e, want)
		}
	}
	var l []made
	for _, x := range numbered(65) {
		l = append(l, asItIs(x.Name, ""))
	}
	refused(t, "65 records", planned(l...).bytes(), api.ErrZipMany)
	taken(t, "64 records", planned(l[:64]...).bytes(), numbered(64))
}

func TestP8_3EndsWithoutRecords(t *testing.T) {
	for _, n := range []int{1, 5, 46, 100} {
		junk := planned()
		junk.tween = make([]byte, n)
		junk.place()
		refused(t, "bytes ahead of the first record's place", junk.bytes(), api.ErrZipForm)
		junk = planned()
		junk.behind = make([]byte, n)
		junk.place()
		refused(t, "bytes that are said to be records", junk.bytes(), api.ErrZipForm)
	}
	first := planned()
	first.end.set("first", 1)
	first.end.set("bytes", 1<<32-1) // with 32 bits in all they would be the end's place
	refused(t, "numbers that wrap round", first.bytes(), api.ErrZipForm)
	around := three()
	from := int(*around.end.at("first"))
	around.end.set("first", 1<<32-1)
	around.end.set("bytes", from+int(*around.end.at("bytes"))+1)
	refused(t, "numbers that wrap round", around.bytes(), api.ErrZipForm)
	for _, shift := range []int{-1, 1, 30} {
		p := three()
		p.end.set("first", from+shift)
		p.end.set("bytes", int(*p.end.at("bytes"))-shift)
		refused(t, "another place of the first record", p.bytes(), api.ErrZipForm)
	}
}

func TestP8_3Gaps(t *testing.T) {
	for _, gap := range [][]byte{{0}, {'P'}, []byte("PK\x03\x04"), make([]byte, 30), make([]byte, 100)} {
		for i := range 3 {
			p := three()
			p.gaps[i] = gap
			refused(t, "a gap that nothing counts", p.bytes(), api.ErrZipForm)
			p.place()
			refused(t, "a gap ahead of a piece", p.bytes(), api.ErrZipForm)
		}
		p := three()
		p.tween = gap
		p.place()
		refused(t, "a gap ahead of the records", p.bytes(), api.ErrZipForm)
		p = three()
		p.behind = gap
		p.place()
		refused(t, "a gap ahead of the end", p.bytes(), api.ErrZipForm)
		refused(t, "bytes behind the end", append(three().bytes(), gap...), api.ErrZipForm)
		p = three()
		p.end.set("remarks", len(gap))
		refused(t, "remarks", append(p.bytes(), gap...), api.ErrZipForm)
	}
}

func TestP8_3RemarksAndFurtherBytesOfAnEntry(t *testing.T) {
	p := three()
	p.records[2].set("remarks", 3)
	p.behind = []byte("abc")
	p.place()
	refused(t, "a record's remarks", p.bytes(), api.ErrZipForm)
	p = three()
	p.records[2].set("further", 3)
	p.behind = []byte("abc")
	p.place()
	refused(t, "a record's further bytes", p.bytes(), api.ErrZipForm)
	p = three()
	p.heads[2].set("further", 3)
	p.tween = []byte("abc")
	p.place()
	refused(t, "a head's further bytes", p.bytes(), api.ErrZipForm)
	p = three()
	p.both(1, func(x *part) { x.set("flags", 8) })
	refused(t, "flags of both", p.bytes(), api.ErrZipForm)
}

func TestP8_3AnotherOrderThanTheRecords(t *testing.T) {
	p := three()
	slices.Reverse(p.records)
	refused(t, "records turned round", p.bytes(), api.ErrZipForm)
	p = three()
	p.records[0], p.records[1] = p.records[1], p.records[0]
	refused(t, "two records for one another", p.bytes(), api.ErrZipForm)
	p = planned(asItIs("a", "x"), asItIs("b", "x"))
	p.records[0], p.records[1] = p.records[1], p.records[0]
	refused(t, "two alike but for their names", p.bytes(), api.ErrZipForm)
	p = planned(asItIs("a", "x"), asItIs("b", "x"))
	p.records[1].set("place", 0)
	refused(t, "two records of one piece", p.bytes(), api.ErrZipForm)
}

func TestP8_3Names(t *testing.T) {
	for _, name := range []string{"", "/", "a/", "/a", "a//b", ".", "..", "a/./b", "A", "a b", "é", "\x00", times("a", 65), times("a", 5000)} {
		for i := range 3 {
			p := three()
			p.rename(i, name)
			refused(t, fmt.Sprintf("%.70q", name), p.bytes(), api.ErrZipName)
		}
	}
	for i := 1; i < 3; i++ {
		for ahead := range i {
			p := three()
			p.rename(i, p.records[ahead].name)
			refused(t, "two of one name", p.bytes(), api.ErrZipName)
		}
	}
	for _, name := range []string{"c", "a/b.txt", times("a", 64)} {
		p := three()
		p.rename(1, name)
		want := threeEntries()
		want[1].Name = name
		taken(t, name, p.bytes(), want)
	}
}

func TestP8_3NamesThatReachTooFar(t *testing.T) {
	for _, long := range []int{2, 3, 22, 23, 24, 100, 65535} {
		p := three()
		p.records[2].set("long", long)
		refused(t, fmt.Sprint("the last name of ", long), p.bytes(), api.ErrZipForm)
		p = three()
		p.heads[2].set("long", long)
		refused(t, fmt.Sprint("the last head's name of ", long), p.bytes(), api.ErrZipForm)
	}
	p := three()
	p.heads[0].name = "c"
	refused(t, "another name in the head", p.bytes(), api.ErrZipForm)
	p = three()
	p.heads[1].name = "a/lonx"
	refused(t, "another last byte of the name in the head", p.bytes(), api.ErrZipForm)
}

func TestP8_3Ways(t *testing.T) {
	for _, way := range []int{1, 7, 9, 12, 14, 93, 0x0800, 0x0008 | 0x0100, 65535} {
		for i := range 3 {
			p := three()
			p.both(i, func(x *part) { x.set("way", way) })
			refused(t, fmt.Sprint("way ", way), p.bytes(), api.ErrZipWay)
		}
	}
	p := three()
	p.both(1, func(x *part) { x.set("way", 0) })
	refused(t, "way 0 with two sizes", p.bytes(), api.ErrZipForm)
	for _, size := range []int{0, 2, 4, 8192} {
		p := three()
		p.both(0, func(x *part) { x.set("size", size) })
		refused(t, "way 0 with two sizes", p.bytes(), api.ErrZipForm)
	}
}

func TestP8_3Sizes(t *testing.T) {
	zeros := func(n int) string { return times("\x00", n) }
	taken(t, "8192 as they are", planned(asItIs("b", zeros(8192))).bytes(), entries(entry("b", zeros(8192))))
	refused(t, "8193 as they are", planned(asItIs("b", zeros(8193))).bytes(), api.ErrZipLarge)
	refused(t, "16385 as they are", planned(asItIs("b", zeros(16385))).bytes(), api.ErrZipLarge)
	taken(t, "8192 deflated", planned(byDeflate("b", zeros(8192))).bytes(), entries(entry("b", zeros(8192))))
	refused(t, "8193 deflated", planned(byDeflate("b", zeros(8193))).bytes(), api.ErrZipLarge)
	for _, size := range []int{0, 1, 8192} {
		m := made{name: "b", way: 8, data: zeros(size), packed: hugeBy(16384, size)}
		if len(m.packed) != 16384 {
			t.Fatal(len(m.packed))
		}
		taken(t, "16384 packed", planned(m).bytes(), entries(entry("b", zeros(size))))
		m.packed = hugeBy(16385, size)
		refused(t, "16385 packed", planned(m).bytes(), api.ErrZipLarge)
	}
	for _, n := range []int{8193, 16384, 16385, 1<<31 - 1, 1 << 31, 1<<32 - 1} {
		for _, word := range []string{"packed", "size"} {
			want := api.ErrZipLarge
			if word == "packed" && n <= 16384 {
				want = api.ErrZipForm
			}
			p := three()
			p.records[1].set(word, n)
			refused(t, fmt.Sprint(word, " ", n), p.bytes(), want)
			p.heads[1].set(word, n)
			refused(t, fmt.Sprint(word, " ", n, " in both"), p.bytes(), want)
		}
	}
}

func TestP8_3PiecesThatReachTooFar(t *testing.T) {
	for n := range 60 {
		p := three()
		p.both(2, func(x *part) { x.set("way", 8) })
		p.both(2, func(x *part) { x.set("packed", n) })
		b := p.bytes()
		if _, e := zip.List(b); (e == api.OK) != (n == 0) || n > 0 && e != api.ErrZipForm {
			t.Errorf("%d packed bytes that reach beyond the first record: %d", n, e)
		}
	}
	whole := planned(asItIs("b", "one"))
	piece := whole.piece(0)
	for n := range piece {
		b := slices.Concat(piece[:n], whole.records[0].bytes())
		end := whole.end
		end.set("first", n)
		refused(t, fmt.Sprint("a piece of ", n, " bytes"), slices.Concat(b, end.bytes()), api.ErrZipForm)
	}
}

func TestP8_3RecordsThatAreCutOff(t *testing.T) {
	whole := three()
	records := whole.laidRecords()
	for n := range records {
		p := three()
		b := slices.Concat(p.piece(0), p.piece(1), p.piece(2), records[:n])
		p.end.set("bytes", n)
		refused(t, fmt.Sprint(n, " bytes of records"), slices.Concat(b, p.end.bytes()), api.ErrZipForm)
	}
}

// fault is something wrong with a file of three, and where it stands in the chapter's order. What it lays otherwise
// comes ahead of what is told of places, what it turns behind that.
type fault struct {
	what string
	rank int
	want api.Errno
	lay  func(*plan)
	turn func(*plan)
}

// inReading is the rank from which on a fault is no error of List.
const inReading = 100

// faults are some of each kind.
func faults() []fault {
	end := func(word string, v int) func(*plan) { return func(p *plan) { p.end.set(word, v) } }
	out := []fault{
		{what: "an end's sign", want: api.ErrZipForm, turn: end("sign", 0x06054b51)},
		{what: "an end's file", want: api.ErrZipForm, turn: end("file", 1)},
		{what: "an end's remarks", want: api.ErrZipForm, turn: end("remarks", 1)},
		{what: "many", rank: 1, want: api.ErrZipMany, turn: func(p *plan) { p.end.set("count", 65); p.end.set("again", 65) }},
		{what: "behind the records", rank: 90, want: api.ErrZipForm, lay: func(p *plan) { p.behind = []byte{0} }},
		{what: "behind the pieces", rank: 90, want: api.ErrZipForm, lay: func(p *plan) { p.tween = []byte{0} }},
		{what: "a check", rank: inReading, want: api.ErrZipSum, turn: func(p *plan) { p.packed[0] = []byte("two") }},
		{what: "a fault in packed bytes", rank: inReading + 1, want: api.ErrZipData, turn: func(p *plan) {
			p.packed[1] = bytes.Repeat([]byte{7}, len(p.packed[1]))
		}},
	}
	for i := range 3 {
		out = append(out, faultsOf(i)...)
	}
	return out
}

// faultsOf are those of one entry's record and head.
func faultsOf(i int) []fault {
	rank := 10 * (i + 1)
	record := func(word string, v int) func(*plan) { return func(p *plan) { p.records[i].set(word, v) } }
	head := func(word string, v int) func(*plan) { return func(p *plan) { p.heads[i].set(word, v) } }
	out := []fault{
		{what: "a record's sign", rank: rank, want: api.ErrZipForm, turn: record("sign", 0)},
		{what: "a record's flags", rank: rank, want: api.ErrZipForm, turn: record("flags", 8)},
		{what: "a record's further bytes", rank: rank, want: api.ErrZipForm, turn: record("further", 1)},
		{what: "a record's remarks", rank: rank, want: api.ErrZipForm, turn: record("remarks", 1)},
		{what: "a record's file", rank: rank, want: api.ErrZipForm, turn: record("file", 1)},
		{what: "a name", rank: rank + 1, want: api.ErrZipName, turn: func(p *plan) {
			p.records[i].name = times("A", len(p.records[i].name))
		}},
		{what: "a way", rank: rank + 2, want: api.ErrZipWay, turn: record("way", 9)},
		{what: "a size", rank: rank + 3, want: api.ErrZipLarge, turn: record("size", 8193)},
		{what: "a packed size", rank: rank + 3, want: api.ErrZipLarge, turn: record("packed", 16385)},
		{what: "a place", rank: rank + 4, want: api.ErrZipForm, turn: record("place", 7)},
		{what: "a head's sign", rank: rank + 4, want: api.ErrZipForm, turn: head("sign", 0)},
		{what: "a head's flags", rank: rank + 4, want: api.ErrZipForm, turn: head("flags", 1)},
		{what: "a head's way", rank: rank + 4, want: api.ErrZipForm, turn: head("way", 1)},
		{what: "a record's check", rank: rank + 4, want: api.ErrZipForm, turn: record("sum", 7)},
	}
	if i > 0 {
		out = append(out, fault{what: "a name that stands twice", rank: rank + 1, want: api.ErrZipName, lay: func(p *plan) {
			p.rename(i, p.heads[0].name)
		}})
	}
	return out
}

// withFaults is a file of three with all these faults, and the first of their errors.
func withFaults(l ...fault) ([]byte, fault) {
	p := three()
	for _, f := range l {
		if f.lay != nil {
			f.lay(p)
		}
	}
	p.place()
	first := l[0]
	for _, f := range l {
		if f.turn != nil {
			f.turn(p)
		}
		if f.rank < first.rank {
			first = f
		}
	}
	return p.bytes(), first
}

func TestP8_3TheFirstOfSeveral(t *testing.T) {
	all := faults()
	hold := func(what string, l ...fault) {
		b, first := withFaults(l...)
		if first.rank < inReading {
			refused(t, what, b, first.want)
		} else {
			unread(t, what, b, first.want)
		}
	}
	for _, f := range all {
		hold(f.what, f)
		for _, g := range all {
			hold(f.what+" and "+g.what, f, g)
		}
	}
	slices.SortStableFunc(all, func(f, g fault) int { return f.rank - g.rank })
	for i, f := range all {
		hold("all from "+f.what+" on", all[i:]...)
	}
	b, _ := withFaults(all...)
	refused(t, "more bytes than may be, of no form", append(make([]byte, 1048577), b...), api.ErrLong)
}

func TestP8_3MixedFaults(t *testing.T) {
	r := mixed(6)
	told := map[api.Errno]int{}
	for range 20000 {
		p := mixedPlan(r)
		for range r.IntN(3) {
			spoilField(r, p)
		}
		b := p.bytes()
		if r.IntN(4) == 0 {
			b = spoil(r, b)
		}
		told[holdAgainst(t, "mixed", b)]++
	}
	for _, e := range []api.Errno{api.OK, api.ErrZipForm, api.ErrZipName, api.ErrZipWay, api.ErrZipLarge, api.ErrZipMany, api.ErrZipData, api.ErrZipSum} {
		if told[e] < 100 {
			t.Errorf("%d told only %d times", e, told[e])
		}
	}
}

// mixedPlan is a file of few small entries, some of which have faults of their own.
func mixedPlan(r *rand.Rand) *plan {
	var l []made
	for i := range r.IntN(4) {
		name := fmt.Sprintf("%c", 'a'+i)
		data := mixedText(r, r.IntN(30), 1+r.IntN(5))
		m := byDeflate(name, data)
		switch r.IntN(8) {
		case 0, 1, 2, 3:
			m = asItIs(name, data)
		case 4:
			m.packed = spoil(r, m.packed)
		case 5:
			m.data = mixedText(r, r.IntN(30), 5)
		}
		l = append(l, m)
	}
	return planned(l...)
}

// spoilField turns one field of a file, or a name, mostly by a little; where it stands in both head and record, often
// both.
func spoilField(r *rand.Rand, p *plan) {
	x := &p.end
	i := -1
	if len(p.heads) > 0 && r.IntN(5) > 0 {
		i = r.IntN(len(p.heads))
		x = []*part{&p.heads[i], &p.records[i]}[r.IntN(2)]
	}
	f := &x.fields[r.IntN(len(x.fields))]
	v := f.value
	all := uint64(1)<<(8*f.width) - 1
	switch r.IntN(4) {
	case 0, 1:
		v = f.value + uint64(r.IntN(5)) - 2
	case 2:
		v = r.Uint64()
	case 3:
		v = []uint64{0, 1, 7, 8, 9, 64, 65, 8192, 8193, 16384, 16385}[r.IntN(11)]
	}
	both := r.IntN(2) == 0
	f.value = v & all
	switch {
	case i < 0 && both && (f.word == "count" || f.word == "again"):
		p.end.set("count", int(f.value))
		p.end.set("again", int(f.value))
	case i >= 0 && both && slices.Contains([]string{"way", "sum", "packed", "size"}, f.word):
		p.both(i, func(y *part) { y.set(f.word, int(v&all)) })
	case i >= 0 && both:
		p.rename(i, []string{"A", "", "a", "b", "a/", "q", times("q", 65)}[r.IntN(7)])
	}
}

// spoil turns, takes away or puts in a byte, or cuts.
func spoil(r *rand.Rand, b []byte) []byte {
	out := bytes.Clone(b)
	if len(out) == 0 {
		return []byte{0}
	}
	at := r.IntN(len(out))
	switch r.IntN(4) {
	case 0:
		out[at] = byte(r.IntN(256))
	case 1:
		out = slices.Delete(out, at, at+1)
	case 2:
		out = slices.Insert(out, at, byte(r.IntN(4)))
	case 3:
		out = out[:at]
	}
	return out
}

func TestP8_4PackedBytesWithFaults(t *testing.T) {
	data := times("abc", 30)
	good := deflated(data)
	with := func(packed []byte, size int) []byte {
		p := planned(asItIs("b", "one"), made{name: "a/long", way: 8, data: data, packed: packed})
		p.both(1, func(x *part) { x.set("size", size) })
		return p.bytes()
	}
	for _, c := range []struct {
		what string
		b    []byte
	}{
		{"no packed bytes", with(nil, len(data))},
		{"no packed bytes, no bytes", with(nil, 0)},
		{"a block of kind 3", with([]byte{7}, len(data))},
		{"a stored block that does not fit", with(unhex("01 0100 0000"), len(data))},
		{"a distance too far", with(unhex("03 02 00"), len(data))},
		{"the last byte cut off", with(good[:len(good)-1], len(data))},
		{"a nought behind their end", with(append(bytes.Clone(good), 0), len(data))},
		{"the same again behind their end", with(slices.Concat(good, good), len(data))},
		{"fewer bytes than the size", with(good, len(data)+1)},
		{"far fewer bytes than the size", with(good, 8192)},
		{"more bytes than the size", with(good, len(data)-1)},
		{"bytes, and a size of none", with(good, 0)},
		{"no bytes, and a size", with(unhex("0300"), 1)},
	} {
		if l, e := zip.List(c.b); e != api.OK || len(l) != 2 {
			t.Errorf("%s: List: %v, %d", c.what, l, e)
		}
		unread(t, c.what, c.b, api.ErrZipData)
		if s, e := zip.Find(c.b, "a/long"); s != "" || e != api.ErrZipData {
			t.Errorf("%s: Find: %q, %d", c.what, s, e)
		}
		if s, e := zip.Find(c.b, "b"); s != "one" || e != api.OK {
			t.Errorf("%s: Find of the good one: %q, %d", c.what, s, e)
		}
	}
	taken(t, "as it should be", with(good, len(data)), entries(entry("b", "one"), entry("a/long", data)))
}

func TestP8_4PackedBytesOfOtherMakers(t *testing.T) {
	stored, _ := deflate.Stored([]byte("one"))
	for _, m := range []made{
		{name: "b", way: 8, packed: unhex("0300")},
		{name: "b", way: 8, packed: unhex("01 0000 ffff")},
		{name: "b", way: 8, data: "one", packed: stored},
		{name: "b", way: 8, data: "abc", packed: unhex("4b4c4a0600")},
		{name: "b", way: 8, data: "abcabc", packed: unhex("00 0300 fcff 616263 01 0300 fcff 616263")},
	} {
		taken(t, fmt.Sprintf("%x", m.packed), planned(m).bytes(), entries(entry("b", m.data)))
	}
}

func TestP8_4WrongChecks(t *testing.T) {
	for i := range 3 {
		for _, turn := range []uint64{1, 1 << 31, 1<<32 - 1} {
			p := three()
			p.both(i, func(x *part) { *x.at("sum") ^= turn })
			b := p.bytes()
			unread(t, "another check", b, api.ErrZipSum)
			if _, e := zip.List(b); e != api.OK {
				t.Errorf("List looks at checks: %d", e)
			}
			for j, x := range threeEntries() {
				s, e := zip.Find(b, x.Name)
				if i == j && (s != "" || e != api.ErrZipSum) || i != j && (s != x.Data || e != api.OK) {
					t.Errorf("the check of %d: Find of %s: %q, %d", i, x.Name, s, e)
				}
			}
		}
	}
	p := three()
	p.packed[0] = []byte("onf")
	unread(t, "another byte", p.bytes(), api.ErrZipSum)
	p = three()
	p.packed[1] = deflated(times("y", 100))
	p.both(1, func(x *part) { x.set("packed", len(p.packed[1])) })
	p.place()
	unread(t, "other bytes, deflated", p.bytes(), api.ErrZipSum)
}

func TestP8_4TheFirstEntrysError(t *testing.T) {
	broken := made{name: "a", way: 8, data: "x", packed: []byte{7}}
	wrong := func(name string) made { return made{name: name, data: "two", packed: []byte("one")} }
	for _, c := range []struct {
		l    []made
		want api.Errno
	}{
		{[]made{broken, wrong("b")}, api.ErrZipData},
		{[]made{wrong("b"), broken}, api.ErrZipSum},
		{[]made{asItIs("c", "good"), wrong("b"), broken}, api.ErrZipSum},
		{[]made{asItIs("c", "good"), broken, wrong("b")}, api.ErrZipData},
		{[]made{{name: "a", way: 8, data: "two", packed: append(deflated("one"), 0)}}, api.ErrZipData},
		{[]made{{name: "a", way: 8, data: "two", packed: deflated("one")}}, api.ErrZipSum},
		{[]made{{name: "a", way: 8, data: "twoo", packed: deflated("one")}}, api.ErrZipData},
	} {
		unread(t, fmt.Sprint(c.l), planned(c.l...).bytes(), c.want)
	}
}

func TestP8_5Find(t *testing.T) {
	b := three().bytes()
	for _, x := range threeEntries() {
		if s, e := zip.Find(b, x.Name); s != x.Data || e != api.OK {
			t.Errorf("%s: %q, %d", x.Name, s, e)
		}
	}
	for _, name := range []string{"", "a", "long", "a/lon", "a/long/", "/a/long", "B", "bb", "q", times("a", 65), "\xff"} {
		if s, e := zip.Find(b, name); s != "" || e != api.ErrZipNone {
			t.Errorf("%q: %q, %d", name, s, e)
		}
	}
	if s, e := zip.Find(planned().bytes(), "a"); s != "" || e != api.ErrZipNone {
		t.Errorf("in none: %q, %d", s, e)
	}
}

func TestP8_5ListsErrorAheadOfNone(t *testing.T) {
	for _, f := range faults() {
		b, _ := withFaults(f)
		want := f.want
		if f.rank >= inReading { // of an entry that is not asked for
			want = api.ErrZipNone
		}
		if s, e := zip.Find(b, "q"); s != "" || e != want {
			t.Errorf("%s: %q, %d, want %d", f.what, s, e, want)
		}
	}
	if _, e := zip.Find(make([]byte, 1048577), "q"); e != api.ErrLong {
		t.Errorf("%d", e)
	}
}

func TestP8_6WrittenAndRead(t *testing.T) {
	r := mixed(7)
	for range 200 {
		l := mixedEntries(r, 8, 400)
		taken(t, "mixed", written(t, l), l)
	}
	for range 3 {
		l := mixedEntries(r, 64, 8192)
		taken(t, "mixed and large", written(t, l), l)
	}
}

// nested are entries whose own bytes are files, or ends of files that say they were the whole.
func nested(t *testing.T) []api.Entry {
	inner := written(t, threeEntries())
	end := planned().end
	end.set("bytes", 31+10)
	within := slices.Concat(make([]byte, 10), end.bytes())
	record := asItIs("a", "").record()
	far := planned().end
	far.set("count", 1)
	far.set("again", 1)
	far.set("first", 31)
	far.set("bytes", 47)
	return entries(entry("a", string(slices.Concat(record.bytes(), far.bytes(), within))), entry("b", string(within)), entry("c", string(inner)))
}

func TestP8_6CutOffAtEveryPlace(t *testing.T) {
	r := mixed(8)
	files := [][]byte{
		written(t, nil), written(t, numbered(1)), written(t, threeEntries()), written(t, nested(t)), written(t, nested(t)[1:]),
	}
	for range 20 {
		files = append(files, written(t, mixedEntries(r, 5, 100)))
	}
	for _, b := range files {
		for n := range b {
			if l, e := zip.Read(b[:n]); len(l) != 0 || e != api.ErrZipForm {
				t.Errorf("%d of %d bytes: Read: %v, %d", n, len(b), l, e)
			}
			if l, e := zip.List(b[:n]); len(l) != 0 || e != api.ErrZipForm {
				t.Errorf("%d of %d bytes: List: %v, %d", n, len(b), l, e)
			}
			if s, e := zip.Find(b[:n], "a"); s != "" || e != api.ErrZipForm {
				t.Errorf("%d of %d bytes: Find: %q, %d", n, len(b), s, e)
			}
		}
	}
}

func TestP8_6FindTellsWhatReadTells(t *testing.T) {
	r := mixed(9)
	for range 300 {
		l := mixedEntries(r, 6, 60)
		b := written(t, l)
		read, _ := zip.Read(b)
		for _, x := range read {
			if s, e := zip.Find(b, x.Name); s != x.Data || e != api.OK {
				t.Fatalf("%s: %d", x.Name, e)
			}
		}
	}
}

func TestP8_6TheLibraryReadsWhatIsWritten(t *testing.T) {
	r := mixed(10)
	for range 100 {
		l := mixedEntries(r, 10, 1000)
		b := written(t, l)
		z, err := stdzip.NewReader(bytes.NewReader(b), int64(len(b)))
		if err != nil || len(z.File) != len(l) {
			t.Fatalf("%v: %v", err, l)
		}
		for i, f := range z.File {
			in, err := f.Open()
			if err != nil {
				t.Fatal(err)
			}
			data, err := io.ReadAll(in)
			if err != nil || f.Name != l[i].Name || string(data) != l[i].Data {
				t.Fatalf("%s: %v", f.Name, err)
			}
		}
	}
}

func TestP8_6WhatTheLibraryWritesIsRead(t *testing.T) {
	r := mixed(11)
	for range 100 {
		l := mixedEntries(r, 10, 1000)
		var out bytes.Buffer
		w := stdzip.NewWriter(&out)
		for _, x := range l {
			packed := deflated(x.Data)
			f, err := w.CreateRaw(&stdzip.FileHeader{
				Name: x.Name, Method: stdzip.Deflate, CRC32: crc32.ChecksumIEEE([]byte(x.Data)),
				CompressedSize64: uint64(len(packed)), UncompressedSize64: uint64(len(x.Data)),
			})
			if err != nil {
				t.Fatal(err)
			}
			if _, err := f.Write(packed); err != nil {
				t.Fatal(err)
			}
		}
		if err := w.Close(); err != nil {
			t.Fatal(err)
		}
		taken(t, "the library's", out.Bytes(), l)
	}
}

func TestR1WhateverComesIn(t *testing.T) {
	r := mixed(12)
	for range 3000 {
		holdAgainst(t, "any bytes", []byte(mixedText(r, r.IntN(200), 256)))
		tail := planned().end
		tail.set("count", r.IntN(4))
		tail.set("again", int(*tail.at("count")))
		junk := []byte(mixedText(r, r.IntN(200), 256))
		first := r.IntN(len(junk) + 1)
		tail.set("first", first)
		tail.set("bytes", len(junk)-first)
		holdAgainst(t, "any bytes ahead of an end", append(junk, tail.bytes()...))
	}
}

func TestR1NothingBesideAnError(t *testing.T) {
	for _, f := range faults() {
		b, _ := withFaults(f)
		if l, e := zip.Read(b); e == api.OK || len(l) != 0 {
			t.Errorf("%s: %v, %d", f.what, l, e)
		}
		if l, e := zip.List(b); e != api.OK && len(l) != 0 {
			t.Errorf("%s: %v, %d", f.what, l, e)
		}
	}
}

// spared is b with room behind it, and a way to ask whether it is as it was.
func spared(b []byte) ([]byte, func() bool) {
	all := append(bytes.Clone(b), 0xa5, 0x5a, 0xa5, 0x5a)
	was := bytes.Clone(all)
	return all[:len(b)], func() bool { return bytes.Equal(all, was) }
}

func TestR2WhatIsHandedInStays(t *testing.T) {
	for _, file := range [][]byte{three().bytes(), planned().bytes(), three().bytes()[:50]} {
		b, asItWas := spared(file)
		zip.List(b)
		zip.Read(b)
		zip.Find(b, "a/long")
		zip.Find(b, "q")
		if !asItWas() {
			t.Error("a file is written into")
		}
	}
	all := append(threeEntries(), entry("spare", "room"))
	was := slices.Clone(all)
	zip.Write(all[:3])
	zip.Write(append(all[:1:1], entry("b", ""))) // refused
	if !slices.Equal(all, was) {
		t.Error("a list is written into")
	}
}

func TestR2WhatComesOutIsNew(t *testing.T) {
	b := written(t, threeEntries())
	was := bytes.Clone(b)
	infos, _ := zip.List(b)
	l, _ := zip.Read(b)
	one, _ := zip.Find(b, "b")
	long, _ := zip.Find(b, "a/long")
	clear(b)
	for i, x := range threeEntries() {
		if infos[i].Name != x.Name || l[i] != x {
			t.Errorf("%v and %v hang on the file", infos[i], l[i])
		}
	}
	if one != "one" || long != times("x", 100) {
		t.Errorf("%q and %q hang on the file", one, long)
	}
	again := written(t, threeEntries())
	if !bytes.Equal(again, was) {
		t.Error("what is written hangs on what was done to a file that was told")
	}
	clear(l)
	clear(infos)
	taken(t, "once more", again, threeEntries())
	for _, b := range [][]byte{written(t, nil), again} {
		if &b[0] == &written(t, nil)[0] {
			t.Error("two answers share memory")
		}
	}
}

func TestR2EntriesThatStayAsTheyAreHangOnNoFile(t *testing.T) {
	b := written(t, entries(entry("a", "plain"), entry("b", "")))
	s, _ := zip.Find(b, "a")
	i := bytes.Index(b, []byte("plain"))
	b[i] = 'P'
	if s != "plain" {
		t.Errorf("%q", s)
	}
	data := []byte("bytes")
	b = written(t, entries(entry("a", string(data))))
	data[0] = 'B'
	if s, e := zip.Find(b, "a"); s != "bytes" || e != api.OK {
		t.Errorf("%q, %d", s, e)
	}
}

func TestR2TheSameEachTime(t *testing.T) {
	r := mixed(13)
	for range 50 {
		l := mixedEntries(r, 6, 200)
		b := written(t, l)
		zip.Read(spoil(r, b))
		zip.Write(entries(entry("A", "")))
		if !bytes.Equal(b, written(t, l)) {
			t.Fatal("another file of the same entries")
		}
		x, _ := zip.Read(b)
		zip.List(b[:len(b)/2])
		y, _ := zip.Read(b)
		if !slices.Equal(x, y) {
			t.Fatal("other entries of the same file")
		}
	}
}

func TestR4FieldsWithoutMeaningAreZero(t *testing.T) {
	l, _ := zip.List(written(t, entries(entry("a", ""))))
	if l[0] != (api.Info{Name: "a"}) {
		t.Errorf("%v", l[0])
	}
}
