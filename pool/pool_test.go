package pool_test

import (
	"bytes"
	"compress/flate"
	"encoding/hex"
	"math"
	"math/rand/v2"
	"runtime"
	"slices"
	"strings"
	"sync"
	"testing"
	"time"

	"haversack/api"
	"haversack/deflate"
	"haversack/inflate"
	"haversack/pool"
	"haversack/zip"
)

// mixed tells numbers that look mixed and are the same in each run.
func mixed(seed uint64) *rand.Rand { return rand.New(rand.NewPCG(seed, 20)) }

func mixedBytes(r *rand.Rand, n, letters int) []byte {
	out := make([]byte, n)
	for i := range out {
		out[i] = byte(r.IntN(letters))
	}
	return out
}

func times(s string, n int) []byte { return []byte(strings.Repeat(s, n)) }

func unhex(text string) []byte {
	b, err := hex.DecodeString(strings.ReplaceAll(text, " ", ""))
	if err != nil {
		panic(err)
	}
	return b
}

func texts(l ...string) [][]byte {
	var out [][]byte
	for _, s := range l {
		out = append(out, []byte(s))
	}
	return out
}

// mixedChunks are n chunks that take much and little time in turn.
func mixedChunks(r *rand.Rand, n int) [][]byte {
	var l [][]byte
	for range n {
		most := []int{0, 1, 9, 300, 3000}[r.IntN(5)]
		l = append(l, mixedBytes(r, r.IntN(most+1), 1+r.IntN(256)))
	}
	return l
}

func same(a, b [][]byte) bool { return slices.EqualFunc(a, b, bytes.Equal) }

func eachDeflated(t *testing.T, l [][]byte) [][]byte {
	t.Helper()
	out := [][]byte{}
	for _, b := range l {
		d, e := deflate.Deflate(b)
		if e != api.OK {
			t.Fatal(e)
		}
		out = append(out, d)
	}
	return out
}

// eachInflated is P20.2 word by word, for numbers that may be.
func eachInflated(l [][]byte, most int) ([][]byte, api.Errno) {
	if len(l) > 64 {
		return nil, api.ErrLong
	}
	var out [][]byte
	for _, b := range l {
		d, read, e := inflate.Inflate(b, most)
		if e != api.OK || read < len(b) {
			return nil, api.ErrPoolData
		}
		out = append(out, d)
	}
	return out, api.OK
}

func packs(t *testing.T, l [][]byte, workers int, want [][]byte) {
	t.Helper()
	if p, e := pool.Pack(l, workers); !same(p, want) || e != api.OK {
		t.Errorf("Pack of %d chunks by %d: %d, %d", len(l), workers, len(p), e)
	}
}

func refusesToPack(t *testing.T, l [][]byte, workers int, want api.Errno) {
	t.Helper()
	if p, e := pool.Pack(l, workers); len(p) != 0 || e != want {
		t.Errorf("Pack of %d chunks by %d: %d, %d, not %d", len(l), workers, len(p), e, want)
	}
}

func unpacks(t *testing.T, l [][]byte, workers, most int, want [][]byte) {
	t.Helper()
	if u, e := pool.Unpack(l, workers, most); !same(u, want) || e != api.OK {
		t.Errorf("Unpack of %d chunks by %d, with most %d: %d, %d", len(l), workers, most, len(u), e)
	}
}

func refusesToUnpack(t *testing.T, l [][]byte, workers, most int, want api.Errno) {
	t.Helper()
	if u, e := pool.Unpack(l, workers, most); len(u) != 0 || e != want {
		t.Errorf("Unpack of %d chunks by %d, with most %d: %d, %d, not %d", len(l), workers, most, len(u), e, want)
	}
}

// notWorkers are numbers of workers that may not be.
var notWorkers = []int{math.MinInt, -1 << 32, -8, -1, 0, 9, 10, 256, 1 << 32, 1<<32 + 1, math.MaxInt}

// notMost are numbers of bytes that may not be asked for.
var notMost = []int{math.MinInt, -1 << 32, -1, 16385, 1 << 32, 1<<32 + 1, math.MaxInt}

func TestP20_1Examples(t *testing.T) {
	l := texts("aaaa", "b")
	p, e := pool.Pack(l, 2)
	if len(p) != 2 || e != api.OK {
		t.Fatal(len(p), e)
	}
	unpacks(t, p, 3, 4, l)
	refusesToUnpack(t, p, 3, 3, api.ErrPoolData)
	packs(t, nil, 1, nil)
	refusesToPack(t, nil, 0, api.ErrArg)
	refusesToPack(t, nil, 9, api.ErrArg)
	refusesToPack(t, make([][]byte, 65), 1, api.ErrLong)
	refusesToPack(t, [][]byte{make([]byte, 16385)}, 1, api.ErrLong)
	refusesToUnpack(t, [][]byte{{7}}, 1, 9, api.ErrPoolData)
}

// Each number of chunks, by each number of workers: more, as many, and fewer than there are workers.
func TestP20_1EachNumberOfChunksAndWorkers(t *testing.T) {
	r := mixed(1)
	for n := range 65 {
		l := mixedChunks(r, n)
		want := eachDeflated(t, l)
		for workers := 1; workers <= 8; workers++ {
			packs(t, l, workers, want)
		}
	}
}

// The first chunks take long, the others are done far ahead of them; and the other way round.
func TestP20_1OrderOfChunksNotOfEnds(t *testing.T) {
	r := mixed(2)
	var l [][]byte
	for i := range 64 {
		n := i
		if i < 4 {
			n = 16384 - i
		}
		l = append(l, mixedBytes(r, n, 3))
	}
	for range 2 {
		want := eachDeflated(t, l)
		for workers := 1; workers <= 8; workers++ {
			packs(t, l, workers, want)
		}
		slices.Reverse(l)
	}
}

func TestP20_1AsMuchAsMayBe(t *testing.T) {
	r := mixed(3)
	var l [][]byte
	for i := range 64 {
		l = append(l, mixedBytes(r, 16384, 1+i*4))
	}
	want := eachDeflated(t, l)
	for _, workers := range []int{1, 3, 8} {
		packs(t, l, workers, want)
	}
	packs(t, make([][]byte, 64), 8, eachDeflated(t, make([][]byte, 64)))
}

func TestP20_1WorkersThatMayNotBe(t *testing.T) {
	for _, workers := range notWorkers {
		for _, l := range [][][]byte{
			nil, {}, texts("a"), {nil}, make([][]byte, 64), make([][]byte, 65), {make([]byte, 16385)},
		} {
			refusesToPack(t, l, workers, api.ErrArg)
		}
	}
}

func TestP20_1TooManyAndTooLong(t *testing.T) {
	for workers := 1; workers <= 8; workers++ {
		for _, n := range []int{65, 66, 100, 1000} {
			refusesToPack(t, make([][]byte, n), workers, api.ErrLong)
		}
		for _, n := range []int{16385, 16386, 32768, 1 << 20} {
			refusesToPack(t, [][]byte{make([]byte, n)}, workers, api.ErrLong)
		}
		for at := range 64 {
			l := make([][]byte, 64)
			l[at] = make([]byte, 16385)
			refusesToPack(t, l, workers, api.ErrLong)
			refusesToPack(t, l[:at+1], workers, api.ErrLong)
		}
	}
}

// bad are chunks that are refused, with most 9, each for a reason of its own.
func bad() [][]byte {
	return [][]byte{
		nil, {}, {0}, // of no bytes, of too few
		{7},                           // a block of kind 3
		unhex("00 00 00 ff ff"),       // a block that is not the last
		unhex("01 01 00 00 00"),       // a length and its complement that do not fit
		unhex("01 03 00 fc ff 61 62"), // bytes as they are, too few of them
		append(unhex("01 0a 00 f5 ff"), times("a", 10)...), // more than 9
		unhex("05 ff ff ff"),          // codes that may not be
		unhex("1b 03 00"),             // a symbol that may not be
		unhex("03 02 00"),             // a distance beyond what there is
		unhex("4b 4c 4a 06"),          // the end is lacking
		unhex("4b 4c 4a 06 00 ff"),    // a byte behind the end
		unhex("4b 4c 4a 06 00 03 00"), // a block behind the last one
		unhex("01 03 00 fc ff 61 62 63 00"),
		append([]byte{3, 0}, make([]byte, 16384)...),
		times("\xff", 20000),
	}
}

func TestP20_2BadOnesAreRefused(t *testing.T) {
	for _, b := range bad() {
		if _, e := eachInflated([][]byte{b}, 9); e != api.ErrPoolData {
			t.Errorf("%x is not bad", b[:min(len(b), 20)])
		}
		for workers := 1; workers <= 8; workers++ {
			refusesToUnpack(t, [][]byte{b}, workers, 9, api.ErrPoolData)
		}
	}
}

// One that is refused, at each place among others.
func TestP20_2OneIsRefused(t *testing.T) {
	good := make([][]byte, 64)
	for i := range good {
		good[i] = unhex("4b 4c 4a 06 00")
	}
	for i, b := range bad() {
		for at := range good {
			l := slices.Clone(good)
			l[at] = b
			refusesToUnpack(t, l, 1+(i+at)%8, 9, api.ErrPoolData)
			refusesToUnpack(t, l[:at+1], 1+(i+at)%8, 9, api.ErrPoolData)
			refusesToUnpack(t, l[at:], 1+(i+at)%8, 9, api.ErrPoolData)
			unpacks(t, l[:at], 1+(i+at)%8, 9, copies("abc", at))
		}
	}
}

// copies are so many chunks of the same text.
func copies(s string, n int) [][]byte {
	var out [][]byte
	for range n {
		out = append(out, []byte(s))
	}
	return out
}

// Several that are refused, and all of them.
func TestP20_2ManyAreRefused(t *testing.T) {
	r := mixed(4)
	l := slices.Repeat(bad(), 4)[:64]
	for workers := 1; workers <= 8; workers++ {
		refusesToUnpack(t, l, workers, 9, api.ErrPoolData)
		refusesToUnpack(t, l[:2], workers, 9, api.ErrPoolData)
		refusesToUnpack(t, make([][]byte, 64), workers, 16384, api.ErrPoolData)
	}
	for range 300 {
		some := copies("\x03\x00", 64)
		for range 1 + r.IntN(5) {
			some[r.IntN(64)] = l[r.IntN(64)]
		}
		refusesToUnpack(t, some, 1+r.IntN(8), 9, api.ErrPoolData)
	}
}

func TestP20_2Most(t *testing.T) {
	long := times("a", 16384)
	l := [][]byte{nil, []byte("a"), times("a", 9), long[:16383], long}
	for _, most := range []int{0, 1, 2, 8, 9, 10, 16382, 16383, 16384} {
		for _, b := range l {
			p := eachDeflated(t, [][]byte{b, nil})
			if len(b) <= most {
				unpacks(t, p, 2, most, [][]byte{b, nil})
			} else {
				refusesToUnpack(t, p, 2, most, api.ErrPoolData)
			}
		}
		unpacks(t, nil, 1, most, nil)
	}
	unpacks(t, copies("\x03\x00", 64), 8, 0, make([][]byte, 64))
}

// What is packed may have more bytes than 16384: no promise refuses that, as long as what it says is no more than most.
func TestP20_2LongPackedChunks(t *testing.T) {
	empty := append(bytes.Repeat(unhex("00 00 00 ff ff"), 10000), 3, 0)
	full := append(bytes.Repeat(unhex("00 00 00 ff ff"), 5), 1, 0, 0x40, 0xff, 0xbf)
	text := times("a", 16384)
	full = append(full, text...)
	for workers := 1; workers <= 8; workers++ {
		unpacks(t, [][]byte{empty, full, empty}, workers, 16384, [][]byte{nil, text, nil})
		unpacks(t, [][]byte{empty, empty}, workers, 0, [][]byte{nil, nil})
		refusesToUnpack(t, [][]byte{empty, full, empty}, workers, 16383, api.ErrPoolData)
	}
}

func TestP20_2NumbersThatMayNotBe(t *testing.T) {
	lists := [][][]byte{nil, texts("\x03\x00"), {{7}}, make([][]byte, 64), make([][]byte, 65)}
	for _, l := range lists {
		for _, workers := range notWorkers {
			for _, most := range []int{0, 9, 16384, -1, 16385} {
				refusesToUnpack(t, l, workers, most, api.ErrArg)
			}
		}
		for _, most := range notMost {
			for _, workers := range []int{1, 2, 8, 0, 9} {
				refusesToUnpack(t, l, workers, most, api.ErrArg)
			}
		}
	}
}

// That there are too many is told ahead of one that is refused.
func TestP20_2TooMany(t *testing.T) {
	for workers := 1; workers <= 8; workers++ {
		for _, n := range []int{65, 66, 100, 1000} {
			refusesToUnpack(t, make([][]byte, n), workers, 0, api.ErrLong)
			refusesToUnpack(t, copies("\x03\x00", n), workers, 16384, api.ErrLong)
			refusesToUnpack(t, copies("\x07", n), workers, 9, api.ErrLong)
		}
		refusesToUnpack(t, copies("\x07", 64), workers, 9, api.ErrPoolData)
	}
}

// byOthers is deflated bytes of another maker.
func byOthers(t *testing.T, b []byte, level int) []byte {
	t.Helper()
	var out bytes.Buffer
	w, err := flate.NewWriter(&out, level)
	if err != nil {
		t.Fatal(err)
	}
	w.Write(b)
	w.Close()
	return out.Bytes()
}

func TestP20_2PackedByOthers(t *testing.T) {
	r := mixed(5)
	for level := -2; level <= 9; level++ {
		l := mixedChunks(r, 64)
		var p [][]byte
		for _, b := range l {
			p = append(p, byOthers(t, b, level))
		}
		for workers := 1; workers <= 8; workers++ {
			unpacks(t, p, workers, 3000, l)
		}
	}
}

// spoil changes some packed chunks a little, or not.
func spoil(r *rand.Rand, p [][]byte) {
	for range r.IntN(3) {
		at := r.IntN(len(p))
		b := slices.Clone(p[at])
		switch r.IntN(3) {
		case 0:
			b = append(b, byte(r.IntN(256)))
		case 1:
			b = b[:len(b)-1]
		case 2:
			b[r.IntN(len(b))] ^= 1 << r.IntN(8)
		}
		p[at] = b
	}
}

func TestP20_2MixedAgainstTheWords(t *testing.T) {
	r := mixed(6)
	seen := map[api.Errno]int{}
	for range 400 {
		n := 1 + r.IntN(66)
		p := eachDeflated(t, mixedChunks(r, min(n, 12)))
		for len(p) < n {
			p = append(p, p[r.IntN(len(p))])
		}
		spoil(r, p)
		most := []int{3000, 3000, 299, 16384}[r.IntN(4)]
		want, wrong := eachInflated(p, most)
		seen[wrong]++
		if u, e := pool.Unpack(p, 1+r.IntN(8), most); !same(u, want) || e != wrong {
			t.Fatalf("%d chunks, with most %d: %d, %d, not %d, %d", len(p), most, len(u), e, len(want), wrong)
		}
	}
	if len(seen) != 3 || slices.Min([]int{seen[api.OK], seen[api.ErrLong], seen[api.ErrPoolData]}) < 10 {
		t.Errorf("few of a kind: %v", seen)
	}
}

func entry(name string, data []byte) api.Entry { return api.Entry{Name: name, Data: string(data)} }

// lists of entries, of which zip has something to tell: files, and each of its errors.
func lists() [][]api.Entry {
	r := mixed(7)
	var many []api.Entry
	for i, b := range mixedChunks(r, 65) {
		many = append(many, entry("e"+string(rune('a'+i%26))+"/"+strings.Repeat("x", 1+i/26), b))
	}
	return [][]api.Entry{
		nil, {}, many[:1], many[:2], many[:9], many[:64],
		{entry("a", nil)}, {entry("a", times("x", 8192)), entry("b", mixedBytes(r, 8192, 256))},
		{entry("a", nil), entry("a", nil)}, {entry("a/", nil)}, {entry("", nil)}, {entry("a", nil), entry("/", nil)},
		{entry("a", make([]byte, 8193))}, many, make([]api.Entry, 65), make([]api.Entry, 1000),
		{entry("a", make([]byte, 8193)), entry("/", nil)}, {entry("/", make([]byte, 8193))},
	}
}

func TestP20_3WhatZipTells(t *testing.T) {
	seen := map[api.Errno]int{}
	for i, l := range lists() {
		want, wrong := zip.Write(l)
		seen[wrong]++
		for workers := 1; workers <= 8; workers++ {
			if b, e := pool.Zip(l, workers); !bytes.Equal(b, want) || e != wrong {
				t.Errorf("list %d by %d: %d bytes, %d, not %d, %d", i, workers, len(b), e, len(want), wrong)
			}
		}
	}
	for _, e := range []api.Errno{api.OK, api.ErrZipMany, api.ErrZipName, api.ErrZipLarge} {
		if seen[e] == 0 {
			t.Errorf("no list with %d", e)
		}
	}
}

func TestP20_3ReadAsTheEntries(t *testing.T) {
	l := []api.Entry{entry("a/b.txt", times("text ", 300)), entry("empty", nil), entry("c", mixedBytes(mixed(8), 500, 256))}
	for workers := 1; workers <= 8; workers++ {
		b, e := pool.Zip(l, workers)
		if e != api.OK {
			t.Fatal(e)
		}
		if back, e := zip.Read(b); !slices.Equal(back, l) || e != api.OK {
			t.Errorf("by %d: %d entries, %d", workers, len(back), e)
		}
	}
}

func TestP20_3WorkersThatMayNotBe(t *testing.T) {
	for _, workers := range notWorkers {
		for _, l := range lists() {
			if b, e := pool.Zip(l, workers); len(b) != 0 || e != api.ErrArg {
				t.Errorf("%d entries by %d: %d bytes, %d", len(l), workers, len(b), e)
			}
		}
	}
}

func TestP20_4PackedAndUnpacked(t *testing.T) {
	r := mixed(9)
	for by := 1; by <= 8; by++ {
		for back := 1; back <= 8; back++ {
			l := append(mixedChunks(r, 1+r.IntN(60)), nil, mixedBytes(r, 16384, 2))
			p, e := pool.Pack(l, by)
			if e != api.OK {
				t.Fatal(e)
			}
			unpacks(t, p, back, 16384, l)
		}
	}
}

// All lists of up to four chunks of few bytes.
func TestP20_4ShortLists(t *testing.T) {
	few := texts("", "a", "aaaaaaaa")
	row := [][][]byte{nil}
	for n := range 4 {
		for _, l := range row {
			if len(l) < n {
				continue
			}
			for _, b := range few {
				row = append(row, append(slices.Clone(l), b))
			}
		}
	}
	for i, l := range row {
		p, e := pool.Pack(l, 1+i%8)
		if e != api.OK {
			t.Fatal(e)
		}
		unpacks(t, p, 1+i/8%8, 8, l)
	}
}

// Whatever is handed in, something is told.
func TestR1WhateverComesIn(t *testing.T) {
	r := mixed(10)
	for range 400 {
		var l [][]byte
		for range r.IntN(70) {
			l = append(l, mixedBytes(r, r.IntN(40), 256))
		}
		pool.Pack(l, r.IntN(11)-1)
		if u, e := pool.Unpack(l, r.IntN(11)-1, r.IntN(100)-1); e != api.OK && len(u) != 0 {
			t.Errorf("%d chunks beside the error %d", len(u), e)
		}
	}
}

// spared is a list with room behind it and behind each of its chunks, and tells whether all of it stayed as it was.
func spared(l [][]byte) ([][]byte, func() bool) {
	var room, was [][]byte
	for _, b := range append(slices.Clone(l), []byte("more"), nil) {
		room = append(room, append(slices.Clone(b), "room behind"...))
		was = append(was, slices.Clone(room[len(room)-1]))
	}
	list := slices.Clone(room)
	for i := range l {
		list[i] = room[i][:len(l[i])]
	}
	stayed := func() bool {
		for i, b := range l {
			if len(list[i]) != len(b) || len(b) > 0 && &list[i][0] != &room[i][0] {
				return false
			}
		}
		return same(room, was) && same(list[len(l):], was[len(l):])
	}
	return list[:len(l)], stayed
}

func TestR2WhatIsHandedInStays(t *testing.T) {
	r := mixed(11)
	for n := range 20 {
		l, stayed := spared(mixedChunks(r, n))
		p, e := pool.Pack(l, 1+n%8)
		if !stayed() || e != api.OK {
			t.Errorf("Pack wrote into what was handed in, %d", e)
		}
		packed, packedStayed := spared(p)
		if pool.Unpack(packed, 1+n%8, 16384); !packedStayed() {
			t.Error("Unpack wrote into what was handed in")
		}
		wrong, wrongStayed := spared(append(p, []byte{7}))
		if pool.Unpack(wrong, 1+n%8, 16384); !wrongStayed() {
			t.Error("Unpack that is refused wrote into what was handed in")
		}
	}
	l := []api.Entry{entry("a", []byte("one")), entry("b", []byte("two")), entry("c", nil)}
	was := slices.Clone(l)
	if pool.Zip(l[:2], 2); !slices.Equal(l, was) {
		t.Error("Zip wrote into what was handed in")
	}
}

// overwrite fills a list's chunks and their room.
func overwrite(l [][]byte) {
	for _, b := range l {
		b = b[:cap(b)]
		for i := range b {
			b[i] = 0xee
		}
	}
}

// What comes out is written over, chunk by chunk, room and all: the other chunks, what was handed in and later answers
// do not change.
func TestR2WhatComesOutIsNew(t *testing.T) {
	r := mixed(12)
	l := append(mixedChunks(r, 30), []byte("stored"), nil, times("a", 16384))
	was := append([][]byte{}, l...)
	for i, b := range was {
		was[i] = slices.Clone(b)
	}
	want := eachDeflated(t, l)
	for i := range l {
		p, _ := pool.Pack(l, 4)
		kept := eachDeflated(t, l)
		overwrite(p[i : i+1])
		kept[i] = p[i]
		if !same(p, kept) || !same(l, was) {
			t.Fatalf("Pack: chunk %d is shared", i)
		}
		u, _ := pool.Unpack(want, 4, 16384)
		kept = slices.Clone(was)
		overwrite(u[i : i+1])
		kept[i] = u[i]
		if !same(u, kept) || !same(want, eachDeflated(t, l)) {
			t.Fatalf("Unpack: chunk %d is shared", i)
		}
		overwrite(p)
		overwrite(u)
	}
	packs(t, l, 4, want)
	unpacks(t, want, 4, 16384, was)
	b, _ := pool.Zip([]api.Entry{entry("a", times("text", 9))}, 2)
	first := slices.Clone(b)
	overwrite([][]byte{b})
	if again, _ := pool.Zip([]api.Entry{entry("a", times("text", 9))}, 2); !bytes.Equal(again, first) {
		t.Error("Zip: what is told later changed")
	}
}

// The chunk that was handed in may change as soon as the call has answered, also if it was refused.
func TestR2NobodyReadsBehindTheAnswer(t *testing.T) {
	r := mixed(13)
	good := eachDeflated(t, mixedChunks(r, 64))
	for range 200 {
		l := make([][]byte, 64)
		for i := range l {
			l[i] = slices.Clone(good[i])
		}
		l[r.IntN(64)] = []byte{7}
		refusesToUnpack(t, l, 8, 3000, api.ErrPoolData)
		overwrite(l) // with the race detector: nobody else is there
	}
}

func TestR2TheSameEachTime(t *testing.T) {
	r := mixed(14)
	l := mixedChunks(r, 64)
	want := eachDeflated(t, l)
	spoilt := slices.Clone(want)
	spoilt[63] = append(slices.Clone(spoilt[63]), 0)
	for i := range 64 {
		packs(t, l, 1+i%8, want)
		unpacks(t, want, 1+i%8, 3000, l)
		refusesToUnpack(t, spoilt, 1+i%8, 3000, api.ErrPoolData)
	}
}

// Calls that are made at the same time know nothing of one another.
func TestR2CallsSideBySide(t *testing.T) {
	r := mixed(15)
	var all sync.WaitGroup
	for i := range 8 {
		l := mixedChunks(r, 20)
		want := eachDeflated(t, l)
		all.Go(func() {
			for range 30 {
				packs(t, l, 1+i, want)
				unpacks(t, want, 8-i, 3000, l)
				refusesToUnpack(t, append(slices.Clone(want), []byte{7}), 1+i, 3000, api.ErrPoolData)
			}
		})
	}
	all.Wait()
}

// left tells how many goroutines are there beyond so many, when those that are on their way out have had their time.
func left(was int) int {
	for range 500 {
		if runtime.NumGoroutine() <= was {
			return 0
		}
		time.Sleep(time.Millisecond)
	}
	return runtime.NumGoroutine() - was
}

func TestR2GoroutinesHaveEnded(t *testing.T) {
	r := mixed(16)
	was := runtime.NumGoroutine()
	for n := range 65 {
		l := mixedChunks(r, n)
		p, _ := pool.Pack(l, 8)
		pool.Unpack(p, 8, 16384)
		pool.Unpack(p, 8, 3)
		pool.Unpack(make([][]byte, n), 8, 16384)
		pool.Unpack(append(p, nil), 1, 16384)
		pool.Pack(append(l, make([]byte, 16385)), 8)
		pool.Zip([]api.Entry{entry("a", times("text", n))}, 8)
	}
	if n := left(was); n != 0 {
		t.Errorf("%d goroutines are left", n)
	}
}
