package frame_test

import (
	"bytes"
	"encoding/binary"
	"hash/crc32"
	"math"
	"math/rand/v2"
	"slices"
	"strings"
	"testing"

	"haversack/api"
	"haversack/frame"
)

// mixed tells numbers that look mixed and are the same in each run.
func mixed(seed uint64) *rand.Rand { return rand.New(rand.NewPCG(seed, 18)) }

func f(kind int, body string) api.Frame { return api.Frame{Kind: kind, Body: body} }

// laid is a frame's bytes by the words of the form, of whatever length is said and with whatever check.
func laid(n uint32, kind byte, body string, change uint32) []byte {
	checked := append([]byte{kind}, body...)
	out := binary.LittleEndian.AppendUint32(nil, n)
	return binary.LittleEndian.AppendUint32(append(out, checked...), crc32.ChecksumIEEE(checked)^change)
}

func bytesOf(fs ...api.Frame) []byte {
	var out []byte
	for _, x := range fs {
		out = append(out, laid(uint32(len(x.Body)), byte(x.Kind), x.Body, 0)...)
	}
	return out
}

// words reads all that was fed as the words say: its whole frames, what is wrong behind them, and how many bytes lack.
func words(b []byte) (fs []api.Frame, wrong api.Errno, wants int) {
	for {
		if len(b) < 4 {
			return fs, api.OK, 9 - len(b)
		}
		n := uint64(b[0]) + uint64(b[1])<<8 + uint64(b[2])<<16 + uint64(b[3])<<24
		if n > 20000 {
			return fs, api.ErrFrameLong, 0
		}
		if len(b) > 4 && b[4] == 0 {
			return fs, api.ErrFrameKind, 0
		}
		size := int(n) + 9
		if len(b) < size {
			return fs, api.OK, size - len(b)
		}
		if crc32.ChecksumIEEE(b[4:size-4]) != binary.LittleEndian.Uint32(b[size-4:size]) {
			return fs, api.ErrFrameSum, 0
		}
		fs = append(fs, f(int(b[4]), string(b[5:size-4])))
		b = b[size:]
	}
}

// like compares without telling 20000 bytes each.
func like(t *testing.T, what string, got, want []api.Frame) bool {
	t.Helper()
	if slices.Equal(got, want) {
		return true
	}
	t.Errorf("%s: %d frames, not %d: %.200v, not %.200v", what, len(got), len(want), got, want)
	return false
}

func feeds(t *testing.T, d *frame.Decoder, b []byte, e api.Errno, want ...api.Frame) {
	t.Helper()
	got, g := d.Feed(b)
	if like(t, "Feed", got, want); g != e {
		t.Errorf("Feed(%.60x): %d, not %d", b, g, e)
	}
}

func stands(t *testing.T, d *frame.Decoder, wants int, wrong api.Errno) {
	t.Helper()
	if n, e := d.Wants(), d.Wrong(); n != wants || e != wrong {
		t.Errorf("Wants, Wrong: %d, %d; not %d, %d", n, e, wants, wrong)
	}
}

// inParts feeds the parts to a new decoder, and holds what it tells behind each of them against the words.
func inParts(t *testing.T, parts ...[]byte) {
	t.Helper()
	d := frame.New()
	var fed []byte
	told := 0
	for i, p := range parts {
		fed = append(fed, p...)
		all, wrong, wants := words(fed)
		got, e := d.Feed(p)
		if !like(t, "Feed", got, all[told:]) || e != wrong || d.Wrong() != wrong || d.Wants() != wants {
			t.Fatalf("part %d of %.200x: %d, Wrong %d, Wants %d; not %d, %d", i, parts, e, d.Wrong(), d.Wants(), wrong, wants)
		}
		told = len(all)
	}
}

func encodes(t *testing.T, x api.Frame, want []byte) {
	t.Helper()
	if b, e := frame.Encode(x); !bytes.Equal(b, want) || e != api.OK {
		t.Errorf("Encode(%d, %d bytes): %.60x, %d; not %.60x", x.Kind, len(x.Body), b, e, want)
	}
}

func refused(t *testing.T, x api.Frame, want api.Errno) {
	t.Helper()
	if b, e := frame.Encode(x); len(b) != 0 || e != want {
		t.Errorf("Encode(%d, %d bytes): %d bytes, %d; not %d", x.Kind, len(x.Body), len(b), e, want)
	}
}

func TestTheExamples(t *testing.T) {
	one := []byte{0, 0, 0, 0, 1, 0x1b, 0xdf, 0x05, 0xa5}
	encodes(t, f(1, ""), one)
	d := frame.New()
	feeds(t, d, one[:5], api.OK)
	stands(t, d, 4, api.OK)
	feeds(t, d, one[5:], api.OK, f(1, ""))
	d = frame.New()
	feeds(t, d, append(slices.Clone(one), 0x21, 0x4e, 0, 0), api.ErrFrameLong, f(1, ""))
	stands(t, d, 0, api.ErrFrameLong)
	for _, b := range [][]byte{nil, {0}, one, bytes.Repeat(one, 100)} {
		feeds(t, d, b, api.ErrFrameLong)
	}
	feeds(t, frame.New(), []byte{0, 0, 0, 0, 0}, api.ErrFrameKind)
	feeds(t, frame.New(), []byte{0, 0, 0, 0, 1, 0, 0, 0, 0}, api.ErrFrameSum)
	refused(t, f(0, ""), api.ErrFrameKind)
	refused(t, f(256, ""), api.ErrFrameKind)
	refused(t, f(1, strings.Repeat("x", 20001)), api.ErrFrameLong)
}

func TestP18_1EachKind(t *testing.T) {
	for kind := 1; kind <= 255; kind++ {
		for _, body := range []string{"", "a", "one\x00\xff"} {
			encodes(t, f(kind, body), laid(uint32(len(body)), byte(kind), body, 0))
		}
	}
}

func TestP18_1EachLength(t *testing.T) {
	row := strings.Repeat("\x00\xff\x80é\n", 12000)
	for _, n := range []int{0, 1, 2, 3, 4, 254, 255, 256, 257, 4095, 4096, 19999, 20000} {
		encodes(t, f(7, row[:n]), laid(uint32(n), 7, row[:n], 0))
	}
	for _, n := range []int{20001, 20002, 32768, 65535, 65536, 65537} {
		refused(t, f(7, row[:n]), api.ErrFrameLong)
	}
	refused(t, f(255, strings.Repeat("x", 1<<24)), api.ErrFrameLong)
}

// ErrFrameKind stands ahead of ErrFrameLong.
func TestP18_1KindsThatMayNotBe(t *testing.T) {
	for _, kind := range []int{0, -1, -255, -256, 256, 257, 511, 512, 1 << 16, 1<<31 + 1, 1<<32 + 1, 1<<40 + 255, math.MaxInt, math.MinInt, math.MinInt + 1} {
		for _, n := range []int{0, 1, 20000, 20001, 1 << 17} {
			refused(t, f(kind, strings.Repeat("x", n)), api.ErrFrameKind)
		}
	}
}

func TestP18_2NothingFed(t *testing.T) {
	d := frame.New()
	stands(t, d, 9, api.OK)
	feeds(t, d, nil, api.OK)
	feeds(t, d, []byte{}, api.OK)
	stands(t, d, 9, api.OK)
}

func some() []api.Frame {
	return []api.Frame{f(1, "one"), f(2, ""), f(255, "\x00\x00\x00\x00\x00\x00\x00\x00\x00"), f(1, "one"), f(9, strings.Repeat("z", 300))}
}

func TestP18_2FramesAtOnce(t *testing.T) {
	d := frame.New()
	feeds(t, d, bytesOf(some()...), api.OK, some()...)
	stands(t, d, 9, api.OK)
	feeds(t, d, bytesOf(some()...), api.OK, some()...)
	feeds(t, d, nil, api.OK)
	many := slices.Repeat(some(), 2000)
	feeds(t, d, bytesOf(many...), api.OK, many...)
	long := []api.Frame{f(3, strings.Repeat("y", 20000)), f(4, strings.Repeat("\x00", 19999)), f(5, strings.Repeat("w", 20000))}
	feeds(t, d, bytesOf(long...), api.OK, long...)
	stands(t, d, 9, api.OK)
}

// Each frame is told once, with the part that makes it whole, and no sooner.
func TestP18_2FramesByteByByte(t *testing.T) {
	d := frame.New()
	for round := range 3 {
		for _, x := range some() {
			b := bytesOf(x)
			for _, c := range b[:len(b)-1] {
				feeds(t, d, []byte{c}, api.OK)
			}
			feeds(t, d, b[len(b)-1:], api.OK, x)
			feeds(t, d, nil, api.OK)
		}
		stands(t, d, 9, api.OK)
		if t.Failed() {
			t.Fatalf("round %d", round)
		}
	}
}

// wrongFrames: bytes that are wrong as soon as the last of them is there.
func wrongFrames() []struct {
	b []byte
	e api.Errno
} {
	return []struct {
		b []byte
		e api.Errno
	}{
		{[]byte{0x21, 0x4e, 0, 0}, api.ErrFrameLong},
		{[]byte{0, 0, 1, 0}, api.ErrFrameLong},
		{[]byte{0, 0, 0, 1}, api.ErrFrameLong},
		{[]byte{1, 0, 0, 0x80}, api.ErrFrameLong},
		{[]byte{0xff, 0xff, 0xff, 0x7f}, api.ErrFrameLong},
		{[]byte{0xff, 0xff, 0xff, 0xff}, api.ErrFrameLong},
		{[]byte{0xf7, 0xff, 0xff, 0xff}, api.ErrFrameLong},
		{[]byte{0, 0, 0, 0, 0}, api.ErrFrameKind},
		{[]byte{0x20, 0x4e, 0, 0, 0}, api.ErrFrameKind},
		{laid(0, 1, "", 1), api.ErrFrameSum},
		{laid(0, 1, "", 1<<31), api.ErrFrameSum},
		{laid(3, 255, "one", 1<<8), api.ErrFrameSum},
		{laid(3, 255, "one", 0xffffffff), api.ErrFrameSum},
		{laid(20000, 2, strings.Repeat("x", 20000), 1<<16), api.ErrFrameSum},
	}
}

func TestP18_2WhatIsWrong(t *testing.T) {
	for i, c := range wrongFrames() {
		for n := range 3 {
			ahead := some()[:n]
			for _, behind := range [][]byte{nil, {0}, bytesOf(f(1, "one")), bytes.Repeat([]byte{0xff}, 100)} {
				d := frame.New()
				feeds(t, d, slices.Concat(bytesOf(ahead...), c.b, behind), c.e, ahead...)
				stands(t, d, 0, c.e)
				// Nothing is read any more, not even what would be wrong otherwise.
				for _, b := range [][]byte{nil, {}, {0}, bytesOf(some()...), {0xff, 0xff, 0xff, 0xff}, {0, 0, 0, 0, 0}, laid(0, 1, "", 1)} {
					feeds(t, d, b, c.e)
					stands(t, d, 0, c.e)
				}
			}
			// It isn't told ahead of the byte that makes it wrong, and then at once.
			d := frame.New()
			feeds(t, d, append(bytesOf(ahead...), c.b[:len(c.b)-1]...), api.OK, ahead...)
			if d.Wrong() != api.OK || d.Wants() == 0 {
				t.Errorf("%d: Wrong %d, Wants %d ahead of its last byte", i, d.Wrong(), d.Wants())
			}
			feeds(t, d, c.b[len(c.b)-1:], c.e)
			stands(t, d, 0, c.e)
		}
	}
}

// A frame may be wrong in more than one way: the one that is named first counts, in whatever parts it comes.
func TestP18_2TheFirstThatIsWrong(t *testing.T) {
	x := strings.Repeat("x", 20001)
	for _, c := range []struct {
		b []byte
		e api.Errno
	}{
		{laid(20001, 0, x, 1), api.ErrFrameLong},
		{laid(20001, 0, x, 0), api.ErrFrameLong},
		{laid(20001, 1, x, 1), api.ErrFrameLong},
		{laid(20001, 1, x, 0), api.ErrFrameLong},
		{laid(20000, 0, x[:20000], 1), api.ErrFrameKind},
		{laid(3, 0, "one", 0), api.ErrFrameKind},
		{laid(3, 0, "one", 1), api.ErrFrameKind},
		{append(laid(3, 1, "one", 1), 0xff, 0xff, 0xff, 0xff, 0), api.ErrFrameSum},
		{append(laid(3, 0, "one", 0), 0xff, 0xff, 0xff, 0xff, 0), api.ErrFrameKind},
		{slices.Concat(laid(20001, 1, "", 0), laid(0, 0, "", 0)), api.ErrFrameLong},
	} {
		feeds(t, frame.New(), c.b, c.e)
		d := frame.New()
		for _, v := range c.b {
			d.Feed([]byte{v})
		}
		stands(t, d, 0, c.e)
	}
}

func TestP18_3Wants(t *testing.T) {
	for _, n := range []int{0, 1, 3, 200, 255, 256, 19999, 20000} {
		b := bytesOf(f(1, strings.Repeat("x", n)))
		for _, ahead := range [][]byte{nil, bytesOf(f(2, "ahead"))} {
			d := frame.New()
			d.Feed(ahead)
			stands(t, d, 9, api.OK)
			for i := range b[:len(b)-1] {
				if got, e := d.Feed(b[i : i+1]); len(got) != 0 || e != api.OK {
					t.Fatalf("%d bytes: byte %d: %d frames, %d", n, i, len(got), e)
				}
				if i+1 < 4 {
					stands(t, d, 9-(i+1), api.OK)
				} else {
					stands(t, d, n+9-(i+1), api.OK)
				}
			}
			feeds(t, d, b[len(b)-1:], api.OK, f(1, strings.Repeat("x", n)))
			stands(t, d, 9, api.OK)
		}
	}
}

// Whoever feeds just as many bytes as are wanted meets each frame's end, and never the next one's bytes.
func TestP18_3FeedingWhatIsWanted(t *testing.T) {
	left := bytesOf(some()...)
	d := frame.New()
	var got []api.Frame
	for len(left) > 0 {
		n := d.Wants()
		if n < 1 || n > len(left) {
			t.Fatalf("%d bytes wanted of %d", n, len(left))
		}
		l, e := d.Feed(left[:n])
		if len(l) > 1 || e != api.OK {
			t.Fatalf("%d frames, %d", len(l), e)
		}
		if len(l) == 1 && d.Wants() != 9 {
			t.Fatalf("%d bytes wanted behind a frame's end", d.Wants())
		}
		got, left = append(got, l...), left[n:]
	}
	like(t, "in all", got, some())
}

func TestP18_3AskingChangesNothing(t *testing.T) {
	d := frame.New()
	b := bytesOf(f(1, "one"))
	feeds(t, d, b[:7], api.OK)
	for range 5 {
		stands(t, d, 5, api.OK)
		feeds(t, d, nil, api.OK)
	}
	feeds(t, d, b[7:], api.OK, f(1, "one"))
}

// Many rows of bytes: whole frames, wrong ones, and what is left of some.
func rows() [][]byte {
	out := [][]byte{nil, bytesOf(some()[:4]...)}
	for _, c := range wrongFrames() {
		if len(c.b) < 100 {
			out = append(out, slices.Concat(bytesOf(some()[:2]...), c.b, bytesOf(f(1, "behind"))), append(slices.Clone(c.b), 0, 0))
		}
	}
	return append(out, bytesOf(some()[0], some()[2])[:20], laid(2, 1, "longer", 0), laid(9, 1, "short", 0))
}

func TestP18_4TwoAndThreeParts(t *testing.T) {
	for _, row := range rows() {
		for i := range len(row) + 1 {
			inParts(t, row[:i], row[i:])
			for j := i; j <= len(row); j++ {
				inParts(t, row[:i], row[i:j], row[j:])
			}
		}
	}
}

// cut tells the row in mixed parts, some of them empty.
func cut(r *rand.Rand, row []byte, most int) [][]byte {
	var out [][]byte
	for len(row) > 0 {
		n := min(len(row), r.IntN(most+1))
		out, row = append(out, row[:n]), row[n:]
	}
	return append(out, nil)
}

func anyFrame(r *rand.Rand) []byte {
	body := make([]byte, r.IntN(12))
	if r.IntN(20) == 0 {
		body = make([]byte, 19990+r.IntN(20))
	}
	for i := range body {
		body[i] = byte(r.IntN(256))
	}
	var change uint32
	if r.IntN(30) == 0 {
		change = 1 << r.IntN(32)
	}
	n, kind := uint32(len(body)), byte(r.IntN(256))
	if r.IntN(30) == 0 {
		n += uint32(r.IntN(5) - 2)
	}
	return laid(n, kind, string(body), change)
}

func TestP18_4MixedParts(t *testing.T) {
	for seed := range uint64(600) {
		r := mixed(seed)
		var row []byte
		for range r.IntN(12) {
			row = append(row, anyFrame(r)...)
		}
		row = row[:len(row)-r.IntN(min(len(row), 15)+1)]
		inParts(t, row)
		inParts(t, cut(r, row, 1+r.IntN(20)+r.IntN(2)*20000)...)
	}
}

// T8: any bytes at all, most of them small numbers, so that lengths are not too great at once.
func TestP18_4AnyBytes(t *testing.T) {
	for seed := range uint64(3000) {
		r := mixed(10000 + seed)
		row := make([]byte, r.IntN(60))
		for i := range row {
			if row[i] = byte(r.IntN(3)); r.IntN(50) == 0 {
				row[i] = byte(r.IntN(256))
			}
		}
		inParts(t, row)
		inParts(t, cut(r, row, 3)...)
	}
	for _, v := range []byte{0, 1, 0x20, 0x4e, 0xff} {
		inParts(t, bytes.Repeat([]byte{v}, 30000))
	}
}

func TestP18_4WhatIsEncodedIsRead(t *testing.T) {
	r := mixed(1)
	for range 300 {
		var all []byte
		var want []api.Frame
		for range r.IntN(6) {
			body := make([]byte, r.IntN(40)+r.IntN(2)*r.IntN(19961))
			for i := range body {
				body[i] = byte(r.IntN(256))
			}
			x := f(1+r.IntN(255), string(body))
			b, e := frame.Encode(x)
			if e != api.OK {
				t.Fatalf("Encode(%d, %d bytes): %d", x.Kind, len(body), e)
			}
			all, want = append(all, b...), append(want, x)
		}
		d := frame.New()
		feeds(t, d, all, api.OK, want...)
		stands(t, d, 9, api.OK)
	}
}

func TestP18_4AnotherByteIsTold(t *testing.T) {
	for _, x := range []api.Frame{f(1, ""), f(255, "a"), f(2, "some bytes\x00\x00\xff"), f(0x80, strings.Repeat("\x00", 20))} {
		whole := bytesOf(x)
		for at := 4; at < len(whole); at++ {
			for change := 1; change < 256; change++ {
				b := slices.Clone(whole)
				b[at] ^= byte(change)
				want := api.ErrFrameSum
				if at == 4 && b[at] == 0 {
					want = api.ErrFrameKind
				}
				feeds(t, frame.New(), b, want)
			}
		}
		for at := range 4 {
			for change := 1; change < 256; change++ {
				b := bytesOf(x, some()[0])
				b[at] ^= byte(change)
				inParts(t, b)
				inParts(t, b[:6], b[6:])
			}
		}
	}
}

// A part that is handed in is neither written into nor kept, nor is the room behind it.
func TestR2PartsAreLeftAlone(t *testing.T) {
	all := bytesOf(some()...)
	for size := 1; size < 40; size++ {
		d := frame.New()
		var got []api.Frame
		for part := range slices.Chunk(all, size) {
			room := append(slices.Clone(part), bytes.Repeat([]byte{0xaa}, 64)...)
			was := slices.Clone(room)
			l, e := d.Feed(room[:len(part)])
			if e != api.OK || !bytes.Equal(room, was) {
				t.Fatalf("parts of %d: %d, the part is %x", size, e, room)
			}
			got = append(got, l...)
			for i := range room {
				room[i] = 0x55
			}
		}
		like(t, "in all", got, some())
	}
}

// Lists that came out are not written into by what comes later, nor does writing into them change anything.
func TestR2AnswersAreNewMemory(t *testing.T) {
	d := frame.New()
	all := bytesOf(some()...)
	first, _ := d.Feed(append(slices.Clone(all), all[:6]...))
	like(t, "at first", first, some())
	spare := first[:cap(first)]
	for i := range spare {
		spare[i] = f(77, "written")
	}
	feeds(t, d, append(slices.Clone(all[6:]), all...), api.OK, append(some(), some()...)...)
	for _, x := range spare {
		if x != f(77, "written") {
			t.Fatalf("a list that came out became %.100v", spare)
		}
	}
	a, _ := frame.Encode(f(1, "one"))
	for i := range a[:cap(a)] {
		a[:cap(a)][i] = 0xff
	}
	encodes(t, f(1, "one"), bytesOf(f(1, "one")))
}

func TestR2DecodersAreApart(t *testing.T) {
	d, other, third := frame.New(), frame.New(), frame.New()
	b, c := bytesOf(f(1, "one")), bytesOf(f(2, "another"))
	feeds(t, d, b[:6], api.OK)
	feeds(t, other, c[:9], api.OK)
	feeds(t, third, []byte{0xff, 0xff, 0xff, 0xff}, api.ErrFrameLong)
	stands(t, d, 6, api.OK)
	stands(t, other, 7, api.OK)
	stands(t, third, 0, api.ErrFrameLong)
	feeds(t, other, c[9:], api.OK, f(2, "another"))
	feeds(t, d, b[6:], api.OK, f(1, "one"))
	stands(t, frame.New(), 9, api.OK)
}

func TestR3NilDecoder(t *testing.T) {
	var d *frame.Decoder
	for _, b := range [][]byte{nil, {0}, bytesOf(some()...), {0xff, 0xff, 0xff, 0xff}, {0, 0, 0, 0, 0}} {
		feeds(t, d, b, api.ErrNil)
		stands(t, d, 0, api.ErrNil)
	}
}
