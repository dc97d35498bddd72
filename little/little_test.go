package little_test

import (
	"bytes"
	"hash/crc32"
	"math"
	"math/rand/v2"
	"testing"

	"haversack/api"
	"haversack/little"
)

// width is one of the three lengths of numbers, with its calls.
type width struct {
	name string
	n    int
	most uint64
	put  func(b []byte, v uint64) []byte
	get  func(b []byte, at int) (uint64, api.Errno)
}

var widths = []width{
	{"16", 2, math.MaxUint16,
		func(b []byte, v uint64) []byte { return little.Put16(b, uint16(v)) },
		func(b []byte, at int) (uint64, api.Errno) { v, e := little.Get16(b, at); return uint64(v), e }},
	{"32", 4, math.MaxUint32,
		func(b []byte, v uint64) []byte { return little.Put32(b, uint32(v)) },
		func(b []byte, at int) (uint64, api.Errno) { v, e := little.Get32(b, at); return uint64(v), e }},
	{"64", 8, math.MaxUint64, little.Put64, little.Get64},
}

// mixed tells numbers that look mixed and are the same in each run.
func mixed(seed uint64) *rand.Rand { return rand.New(rand.NewPCG(seed, 2)) }

func mixedBytes(r *rand.Rand, n int) []byte {
	out := make([]byte, n)
	for i := range out {
		out[i] = byte(r.UintN(256))
	}
	return out
}

// slowBytes and slowNumber reckon by weights, without shifts.
func slowBytes(v uint64, n int) []byte {
	var out []byte
	for range n {
		out = append(out, byte(v%256))
		v /= 256
	}
	return out
}

func slowNumber(b []byte) uint64 {
	v, weight := uint64(0), uint64(1)
	for _, x := range b {
		v += uint64(x) * weight
		weight *= 256
	}
	return v
}

// slowMore is P2.3 word by word, the register as a row of bits, the lowest first.
func slowMore(sum uint32, b []byte) uint32 {
	var register, over [32]bool
	for i := range 32 {
		register[i] = sum>>i&1 == 0
		over[i] = uint32(0xedb88320)>>i&1 == 1
	}
	for _, x := range b {
		for i := range 8 {
			register[i] = register[i] != (x>>i&1 == 1)
		}
		for range 8 {
			fell := register[0]
			copy(register[:], register[1:])
			register[31] = false
			for i := range 32 {
				register[i] = register[i] != (fell && over[i])
			}
		}
	}
	var out uint32
	for i := range 32 {
		if !register[i] {
			out |= 1 << i
		}
	}
	return out
}

func lays(t *testing.T, w width, b []byte, v uint64, want ...byte) {
	t.Helper()
	if got := w.put(b, v); !bytes.Equal(got, want) {
		t.Errorf("Put%s(%x, %#x) = %x, want %x", w.name, b, v, got, want)
	}
}

func reads(t *testing.T, w width, b []byte, at int, want uint64, wantErr api.Errno) {
	t.Helper()
	if v, e := w.get(b, at); v != want || e != wantErr {
		t.Errorf("Get%s(%x, %d) = %#x, %d, want %#x, %d", w.name, b, at, v, e, want, wantErr)
	}
}

func checks(t *testing.T, sum uint32, b []byte, want uint32) {
	t.Helper()
	if got := little.More(sum, b); got != want {
		t.Errorf("More(%08x, %x) = %08x, want %08x", sum, b, got, want)
	}
}

func TestP2_1PutLaysTheLowestByteFirst(t *testing.T) {
	lays(t, widths[0], []byte{7}, 258, 7, 2, 1)
	lays(t, widths[1], nil, 1, 1, 0, 0, 0)
	lays(t, widths[1], []byte{7, 8}, 0x89abcdef, 7, 8, 0xef, 0xcd, 0xab, 0x89)
	lays(t, widths[2], []byte{9}, 0x0123456789abcdef, 9, 0xef, 0xcd, 0xab, 0x89, 0x67, 0x45, 0x23, 0x01)
}

func TestP2_1PutOfNoughtAndOfTheGreatest(t *testing.T) {
	for _, w := range widths {
		for _, b := range [][]byte{nil, {}, {0}, {1, 2, 3}} {
			for _, v := range []uint64{0, 1, w.most - 1, w.most, w.most/2 + 1} {
				lays(t, w, b, v, append(bytes.Clone(b), slowBytes(v, w.n)...)...)
			}
		}
	}
}

func TestP2_1PutOfEachSingleBit(t *testing.T) {
	for _, w := range widths {
		for i := range 8 * w.n {
			want := make([]byte, w.n)
			want[i/8] = 1 << (i % 8)
			lays(t, w, nil, 1<<i, want...)
		}
	}
}

func TestP2_1PutBehindManyBytes(t *testing.T) {
	r := mixed(1)
	for _, n := range []int{1, 2, 3, 7, 8, 9, 63, 64, 65, 1000, 4095, 4096} {
		b := mixedBytes(r, n)
		for _, w := range widths {
			v := r.Uint64() & w.most
			lays(t, w, b, v, append(bytes.Clone(b), slowBytes(v, w.n)...)...)
		}
	}
}

func TestP2_2GetReadsTheLowestByteFirst(t *testing.T) {
	reads(t, widths[0], []byte{7, 2, 1}, 1, 258, api.OK)
	reads(t, widths[0], []byte{7, 2, 1}, 0, 0x207, api.OK)
	reads(t, widths[1], []byte{7, 0xef, 0xcd, 0xab, 0x89, 7}, 1, 0x89abcdef, api.OK)
	reads(t, widths[2], []byte{9, 0xef, 0xcd, 0xab, 0x89, 0x67, 0x45, 0x23, 0x01, 9}, 1, 0x0123456789abcdef, api.OK)
}

func TestP2_2GetAtEachPlace(t *testing.T) {
	r := mixed(2)
	for n := range 20 {
		b := mixedBytes(r, n)
		for _, w := range widths {
			for at := -3; at < n+3; at++ {
				if at < 0 || n-at < w.n {
					reads(t, w, b, at, 0, api.ErrLittleEnd)
				} else {
					reads(t, w, b, at, slowNumber(b[at:at+w.n]), api.OK)
				}
			}
		}
	}
}

func TestP2_2GetWhereOneByteIsTooFew(t *testing.T) {
	for _, w := range widths {
		b := bytes.Repeat([]byte{0xff}, w.n)
		reads(t, w, b, 0, w.most, api.OK)
		reads(t, w, b, 1, 0, api.ErrLittleEnd)
		reads(t, w, b[1:], 0, 0, api.ErrLittleEnd)
		reads(t, w, b[:w.n-1], 0, 0, api.ErrLittleEnd) // the byte that lacks stands in b's spare room
	}
}

func TestP2_2GetOfNoBytes(t *testing.T) {
	for _, w := range widths {
		for _, b := range [][]byte{nil, {}} {
			for at := -9; at < 10; at++ {
				reads(t, w, b, at, 0, api.ErrLittleEnd)
			}
		}
	}
}

func TestP2_2GetAtPlacesFarOff(t *testing.T) {
	for _, w := range widths {
		for _, n := range []int{0, 1, w.n, 20} {
			b := bytes.Repeat([]byte{1}, n)
			for i := range 20 {
				reads(t, w, b, math.MaxInt-i, 0, api.ErrLittleEnd)
				reads(t, w, b, math.MinInt+i, 0, api.ErrLittleEnd)
			}
			reads(t, w, b, math.MinInt32, 0, api.ErrLittleEnd)
			reads(t, w, b, math.MaxInt32, 0, api.ErrLittleEnd)
			reads(t, w, b, 1<<32, 0, api.ErrLittleEnd)
		}
	}
}

func TestP2_3SumOfKnownBytes(t *testing.T) {
	for _, c := range []struct {
		text string
		want uint32
	}{
		{"", 0},
		{"a", 0xe8b7be43},
		{"\x00", 0xd202ef8d},
		{"\xff", 0xff000000},
		{"123456789", 0xcbf43926},
		{"\x00\x00\x00\x00", 0x2144df1c},
		{"\xff\xff\xff\xff", 0xffffffff},
	} {
		if got := little.Sum([]byte(c.text)); got != c.want {
			t.Errorf("Sum(%q) = %08x, want %08x", c.text, got, c.want)
		}
	}
	if got := little.Sum(nil); got != 0 {
		t.Errorf("Sum(nil) = %08x, want 0", got)
	}
}

func TestP2_3MoreOfNoBytesIsTheCheckItself(t *testing.T) {
	for _, sum := range []uint32{0, 1, 0x80000000, 0xcbf43926, math.MaxUint32} {
		checks(t, sum, nil, sum)
		checks(t, sum, []byte{}, sum)
	}
}

func TestP2_3MoreOfEachByte(t *testing.T) {
	for _, sum := range []uint32{0, 1, 0xedb88320, 0xcbf43926, math.MaxUint32} {
		for x := range 256 {
			checks(t, sum, []byte{byte(x)}, slowMore(sum, []byte{byte(x)}))
		}
	}
}

func TestP2_3MoreOfRows(t *testing.T) {
	r := mixed(3)
	for range 200 {
		sum, b := r.Uint32(), mixedBytes(r, r.IntN(40))
		checks(t, sum, b, slowMore(sum, b))
		if got, want := little.Sum(b), slowMore(0, b); got != want {
			t.Errorf("Sum(%x) = %08x, want %08x", b, got, want)
		}
	}
	long := mixedBytes(r, 70000)
	checks(t, 0, long, crc32.ChecksumIEEE(long))
	checks(t, 5, long, crc32.Update(5, crc32.IEEETable, long))
}

func TestP2_4WhatWasPutIsGot(t *testing.T) {
	r := mixed(4)
	for range 300 {
		b := mixedBytes(r, r.IntN(12))
		var places []int
		var numbers []uint64
		var kinds []width
		for range r.IntN(10) {
			w := widths[r.IntN(len(widths))]
			v := r.Uint64() & w.most
			places, numbers, kinds = append(places, len(b)), append(numbers, v), append(kinds, w)
			b = w.put(b, v)
		}
		for i, w := range kinds {
			reads(t, w, b, places[i], numbers[i], api.OK)
		}
	}
	for _, w := range widths {
		for _, v := range []uint64{0, 1, w.most - 1, w.most} {
			reads(t, w, w.put(nil, v), 0, v, api.OK)
			reads(t, w, w.put([]byte{1, 2, 3}, v), 3, v, api.OK)
		}
	}
}

func TestP2_4GoingOnIsTheCheckOfBoth(t *testing.T) {
	checks(t, little.Sum([]byte("1234")), []byte("56789"), 0xcbf43926)
	b := mixedBytes(mixed(5), 30)
	whole := little.Sum(b)
	for cut := range len(b) + 1 {
		checks(t, little.Sum(b[:cut]), b[cut:], whole)
		for _, sum := range []uint32{1, 0x80000000, math.MaxUint32} {
			checks(t, little.More(sum, b[:cut]), b[cut:], little.More(sum, b))
		}
	}
	one := uint32(0)
	for i := range b {
		one = little.More(one, b[i:i+1])
	}
	if one != whole {
		t.Errorf("byte by byte %08x, at once %08x", one, whole)
	}
}

// unlike: b with the bytes of change laid over it from at on has another check.
func unlike(t *testing.T, b []byte, at int, change []byte) {
	t.Helper()
	other := bytes.Clone(b)
	for i, x := range change {
		other[at+i] ^= x
	}
	if little.Sum(b) == little.Sum(other) {
		t.Fatalf("Sum(%x) = Sum(%x)", b, other)
	}
}

func TestP2_4RowsThatDifferInFourNeighboursHaveUnlikeChecks(t *testing.T) {
	r := mixed(6)
	b := mixedBytes(r, 12)
	for at := range len(b) {
		for x := 1; x < 256; x++ {
			unlike(t, b, at, []byte{byte(x)})
		}
		for n := 2; n <= min(4, len(b)-at); n++ {
			for range 500 {
				change := mixedBytes(r, n)
				change[r.IntN(n)] |= 1 // so that they do differ
				unlike(t, b, at, change)
			}
		}
	}
	for bit := range 32 { // 32 neighbouring bits, where one change undoes the most of another
		for other := range bit {
			change := slowBytes(1<<bit|1<<other, 4)
			unlike(t, b, 0, change)
			unlike(t, b, 8, change)
		}
	}
	unlike(t, b, 4, slowBytes(0xedb88320, 4))
}

func TestR2PutsAnswerNewMemory(t *testing.T) {
	for _, w := range widths {
		room := []byte{1, 2, 71, 72, 73, 74, 75, 76, 77, 78, 79}
		held := bytes.Clone(room)
		b := room[:2]
		first, second := w.put(b, 5), w.put(b, w.most)
		if !bytes.Equal(room, held) {
			t.Errorf("Put%s wrote into the list handed in or its spare room: %v", w.name, room)
		}
		if first[2] != 5 || second[2] != 0xff {
			t.Errorf("two answers of Put%s share memory", w.name)
		}
		for i := range first {
			first[i] = 9
		}
		if !bytes.Equal(room, held) || second[0] != 1 {
			t.Errorf("an answer of Put%s shares memory", w.name)
		}
		b[0] = 55
		if second[0] != 1 {
			t.Errorf("Put%s keeps the list handed in", w.name)
		}
	}
}

func TestR2AnswersGoOnApart(t *testing.T) {
	for _, w := range widths { // two that grow from one answer, which may have spare room itself
		base := w.put(nil, 1)
		one, two := little.Put16(base, 0x0102), little.Put16(base, 0x0304)
		if !bytes.Equal(one[w.n:], []byte{2, 1}) || !bytes.Equal(two[w.n:], []byte{4, 3}) {
			t.Errorf("%x and %x share memory", one, two)
		}
	}
}

func TestR2ReadingChangesNothing(t *testing.T) {
	room := mixedBytes(mixed(7), 40)
	held := bytes.Clone(room)
	b := room[:20]
	for _, w := range widths {
		for at := -1; at < 22; at++ {
			v, e := w.get(b, at)
			reads(t, w, b, at, v, e)
		}
	}
	sum := little.Sum(b)
	checks(t, 0, b, sum)
	checks(t, 0, b, sum)
	if !bytes.Equal(room, held) {
		t.Error("a list handed in was changed")
	}
}
