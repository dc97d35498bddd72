package bits_test

import (
	"bytes"
	"math"
	"slices"
	"testing"

	"haversack/api"
	"haversack/bits"
)

// wrongCounts are no numbers of bits that may be put or taken.
var wrongCounts = []int{-1, 33, 34, 64, -32, 1 << 32, 1<<32 + 1, math.MaxInt, math.MinInt}

// steps tells numbers that look mixed and are the same in each run.
type steps uint64

func (s *steps) below(n int) int {
	*s = *s*6364136223846793005 + 1442695040888963407
	return int(uint64(*s) >> 33 % uint64(n))
}

func (s *steps) bytes(n int) []byte {
	out := make([]byte, n)
	for i := range out {
		out[i] = byte(s.below(256))
	}
	return out
}

func (s *steps) number(n int) uint32 {
	return uint32(uint64(s.below(1<<31)<<1|s.below(2)) & (1<<n - 1))
}

// row tells a number's bits one by one: the words of the chapter, as slow and plain as they are.
func row(v uint32, n int) []bool {
	var out []bool
	for range n {
		out = append(out, v%2 == 1)
		v /= 2
	}
	return out
}

func rowOfBytes(b []byte) []bool {
	var out []bool
	for _, x := range b {
		out = append(out, row(uint32(x), 8)...)
	}
	return out
}

func numberOfRow(row []bool) uint32 {
	v, weight := uint32(0), uint32(1)
	for _, one := range row {
		if one {
			v += weight
		}
		weight *= 2
	}
	return v
}

func bytesOfRow(row []bool) []byte {
	var out []byte
	for len(row) > 0 {
		n := min(8, len(row))
		out = append(out, byte(numberOfRow(row[:n])))
		row = row[n:]
	}
	return out
}

func put(t *testing.T, w *bits.Writer, v uint32, n int, want api.Errno) {
	t.Helper()
	if e := w.Put(v, n); e != want {
		t.Errorf("Put(%#x, %d) = %d, want %d", v, n, e, want)
	}
}

func wrote(t *testing.T, w *bits.Writer, n int, b ...byte) {
	t.Helper()
	if got := w.Len(); got != n {
		t.Errorf("Len() = %d, want %d", got, n)
	}
	if got := w.Bytes(); !bytes.Equal(got, b) {
		t.Errorf("Bytes() = %x, want %x", got, b)
	}
}

func take(t *testing.T, r *bits.Reader, n int, want uint32, wantErr api.Errno) {
	t.Helper()
	if v, e := r.Take(n); v != want || e != wantErr {
		t.Errorf("Take(%d) = %#x, %d, want %#x, %d", n, v, e, want, wantErr)
	}
}

func stands(t *testing.T, r *bits.Reader, gone, left int) {
	t.Helper()
	if g, l := r.Gone(), r.Left(); g != gone || l != left {
		t.Errorf("gone %d, left %d, want %d and %d", g, l, gone, left)
	}
}

func ok(t *testing.T, e api.Errno) {
	t.Helper()
	if e != api.OK {
		t.Errorf("answered %d, want OK", e)
	}
}

func TestP1_1NewWriterHasNoBits(t *testing.T) {
	w := bits.NewWriter()
	if w == nil {
		t.Fatal("NewWriter() is nil")
	}
	wrote(t, w, 0)
}

func TestP1_1PutLaysTheLowestBitFirst(t *testing.T) {
	w := bits.NewWriter()
	put(t, w, 5, 3, api.OK)
	put(t, w, 1, 1, api.OK)
	wrote(t, w, 4, 0x0d)
	put(t, w, 0x5a, 8, api.OK)
	wrote(t, w, 12, 0xad, 0x05)
	put(t, w, 0x89abcdef, 32, api.OK)
	wrote(t, w, 44, 0xad, 0xf5, 0xde, 0xbc, 0x9a, 0x08)
}

func TestP1_1PutOfNoBits(t *testing.T) {
	w := bits.NewWriter()
	put(t, w, 0, 0, api.OK)
	wrote(t, w, 0)
	put(t, w, 1, 0, api.ErrArg)
	put(t, w, 1, 1, api.OK)
	put(t, w, 0, 0, api.OK)
	wrote(t, w, 1, 0x01)
}

func TestP1_1PutOfNoughts(t *testing.T) {
	w := bits.NewWriter()
	put(t, w, 0, 9, api.OK)
	wrote(t, w, 9, 0, 0)
	put(t, w, 0, 32, api.OK)
	wrote(t, w, 41, 0, 0, 0, 0, 0, 0)
}

func TestP1_1PutOfAllBitsAtEachPlace(t *testing.T) {
	for ahead := range 33 {
		for n := range 33 {
			most := uint32(uint64(1)<<n - 1)
			w := bits.NewWriter()
			put(t, w, 0, ahead, api.OK)
			put(t, w, most, n, api.OK)
			want := append(row(0, ahead), row(most, n)...)
			wrote(t, w, ahead+n, bytesOfRow(want)...)
		}
	}
}

func TestP1_1PutRefusesBitsBeyond(t *testing.T) {
	w := bits.NewWriter()
	put(t, w, 5, 3, api.OK)
	for n := range 32 {
		for high := n; high < 32; high++ {
			put(t, w, 1<<high, n, api.ErrArg)
		}
		put(t, w, math.MaxUint32, n, api.ErrArg)
	}
	wrote(t, w, 3, 0x05)
}

func TestP1_1PutRefusesNumbersOfBits(t *testing.T) {
	w := bits.NewWriter()
	put(t, w, 5, 3, api.OK)
	for _, n := range wrongCounts {
		put(t, w, 0, n, api.ErrArg)
		put(t, w, 1, n, api.ErrArg)
		put(t, w, math.MaxUint32, n, api.ErrArg)
	}
	wrote(t, w, 3, 0x05)
}

func TestP1_2Align(t *testing.T) {
	w := bits.NewWriter()
	ok(t, w.Align())
	wrote(t, w, 0)
	put(t, w, 1, 1, api.OK)
	ok(t, w.Align())
	wrote(t, w, 8, 0x01)
	ok(t, w.Align())
	wrote(t, w, 8, 0x01)
	put(t, w, 3, 2, api.OK)
	wrote(t, w, 10, 0x01, 0x03)
}

func TestP1_2AlignFromEachNumberOfBits(t *testing.T) {
	for n := range 33 {
		w := bits.NewWriter()
		most := uint32(uint64(1)<<n - 1)
		put(t, w, most, n, api.OK)
		ok(t, w.Align())
		whole := (n + 7) / 8 * 8
		want := append(row(most, n), row(0, whole-n)...)
		wrote(t, w, whole, bytesOfRow(want)...)
		put(t, w, 1, 1, api.OK)
		wrote(t, w, whole+1, bytesOfRow(append(want, true))...)
	}
}

func TestP1_2BytesAndLenChangeNothing(t *testing.T) {
	w := bits.NewWriter()
	put(t, w, 2, 3, api.OK)
	wrote(t, w, 3, 0x02)
	wrote(t, w, 3, 0x02)
	put(t, w, 3, 2, api.OK)
	wrote(t, w, 5, 0x1a)
}

func TestP1_3ReaderStandsAheadOfTheFirstBit(t *testing.T) {
	r := bits.NewReader([]byte{0x81, 0x02})
	stands(t, r, 0, 16)
	take(t, r, 1, 1, api.OK)
	stands(t, r, 1, 15)
}

func TestP1_3ReaderOfNoBits(t *testing.T) {
	for _, b := range [][]byte{nil, {}} {
		r := bits.NewReader(b)
		if r == nil {
			t.Fatal("NewReader is nil")
		}
		stands(t, r, 0, 0)
		take(t, r, 0, 0, api.OK)
		take(t, r, 1, 0, api.ErrBitsEnd)
		ok(t, r.Align())
		ok(t, r.Back(0))
		stands(t, r, 0, 0)
		ok(t, r.More(b))
		stands(t, r, 0, 0)
	}
}

func TestP1_3MoreStandsBehind(t *testing.T) {
	r := bits.NewReader([]byte{0xb4})
	take(t, r, 6, 0x34, api.OK)
	take(t, r, 3, 0, api.ErrBitsEnd)
	ok(t, r.More([]byte{0x01, 0xff}))
	stands(t, r, 6, 18)
	take(t, r, 3, 6, api.OK)
	ok(t, r.More(nil))
	stands(t, r, 9, 15)
	take(t, r, 15, 0x7f80, api.OK)
	ok(t, r.More([]byte{0x2a}))
	stands(t, r, 24, 8)
	take(t, r, 8, 0x2a, api.OK)
	ok(t, r.Back(32))
	take(t, r, 32, 0x2aff01b4, api.OK)
}

func TestP1_4TakeTheLowestBitFirst(t *testing.T) {
	r := bits.NewReader([]byte{0xb4, 0x01})
	take(t, r, 2, 0, api.OK)
	take(t, r, 4, 13, api.OK)
	take(t, r, 3, 6, api.OK)
	stands(t, r, 9, 7)
	take(t, r, 8, 0, api.ErrBitsEnd)
	stands(t, r, 9, 7)
	take(t, r, 7, 0, api.OK)
	stands(t, r, 16, 0)
}

func TestP1_4TakeOfZeroAnd32Bits(t *testing.T) {
	r := bits.NewReader([]byte{0xef, 0xcd, 0xab, 0x89, 0xff})
	take(t, r, 0, 0, api.OK)
	stands(t, r, 0, 40)
	take(t, r, 32, 0x89abcdef, api.OK)
	take(t, r, 32, 0, api.ErrBitsEnd)
	take(t, r, 9, 0, api.ErrBitsEnd)
	stands(t, r, 32, 8)
	take(t, r, 8, 0xff, api.OK)
	take(t, r, 0, 0, api.OK)
	take(t, r, 1, 0, api.ErrBitsEnd)
	stands(t, r, 40, 0)
}

func TestP1_4TakeAtEachPlace(t *testing.T) {
	b := []byte{0x9d, 0x3c, 0xf1, 0x06, 0xe8, 0x57, 0xa2, 0x4b, 0xd0}
	all := rowOfBytes(b)
	for at := range 33 {
		for n := range 33 {
			r := bits.NewReader(b)
			take(t, r, at, numberOfRow(all[:at]), api.OK)
			take(t, r, n, numberOfRow(all[at:at+n]), api.OK)
			stands(t, r, at+n, len(all)-at-n)
		}
	}
}

func TestP1_4TakeRefusesNumbersOfBits(t *testing.T) {
	r := bits.NewReader([]byte{0xb4, 0x01, 0, 0, 0, 0, 0, 0, 0})
	take(t, r, 3, 4, api.OK)
	for _, n := range wrongCounts {
		take(t, r, n, 0, api.ErrArg)
	}
	stands(t, r, 3, 69)
	for _, n := range wrongCounts {
		take(t, bits.NewReader(nil), n, 0, api.ErrArg) // ahead of ErrBitsEnd
	}
}

func TestP1_4AlignFromEachPlace(t *testing.T) {
	b := []byte{0xff, 0xfe, 0xfd, 0xfc, 0xfb}
	for n := range 33 {
		r := bits.NewReader(b)
		r.Take(n)
		ok(t, r.Align())
		whole := (n + 7) / 8 * 8
		stands(t, r, whole, 40-whole)
		ok(t, r.Align())
		stands(t, r, whole, 40-whole)
		take(t, r, 8, uint32(b[whole/8]), api.OK)
	}
}

func TestP1_5Back(t *testing.T) {
	r := bits.NewReader([]byte{0xb4, 0x01})
	take(t, r, 9, 0x1b4, api.OK)
	ok(t, r.Align())
	stands(t, r, 16, 0)
	ok(t, r.Back(9))
	stands(t, r, 7, 9)
	take(t, r, 1, 1, api.OK)
	for _, n := range []int{9, 16, -1, math.MaxInt, math.MinInt} {
		if e := r.Back(n); e != api.ErrArg {
			t.Errorf("Back(%d) = %d, want ErrArg", n, e)
		}
		stands(t, r, 8, 8)
	}
	ok(t, r.Back(0))
	stands(t, r, 8, 8)
	ok(t, r.Back(8))
	stands(t, r, 0, 16)
	if e := r.Back(1); e != api.ErrArg {
		t.Errorf("Back(1) with none gone = %d, want ErrArg", e)
	}
	take(t, r, 16, 0x1b4, api.OK)
}

// cuts tells some number of bits at each step till all are told.
func cuts(s *steps, all int) []int {
	var out []int
	for all > 0 {
		n := min(s.below(33), all)
		out = append(out, n)
		all -= n
	}
	return out
}

func TestP1_6PutIsTakenAgain(t *testing.T) {
	s := steps(1)
	for range 200 {
		counts := cuts(&s, s.below(600))
		var numbers []uint32
		var want []bool
		w := bits.NewWriter()
		for _, n := range counts {
			v := s.number(n)
			put(t, w, v, n, api.OK)
			numbers = append(numbers, v)
			want = append(want, row(v, n)...)
		}
		wrote(t, w, len(want), bytesOfRow(want)...)
		r := bits.NewReader(w.Bytes())
		for i, n := range counts {
			take(t, r, n, numbers[i], api.OK)
		}
	}
}

func TestP1_6BytesTakenAndPutAreThemselves(t *testing.T) {
	s := steps(2)
	for range 200 {
		b := s.bytes(s.below(70))
		r, w := bits.NewReader(b), bits.NewWriter()
		for _, n := range cuts(&s, 8*len(b)) {
			v, e := r.Take(n)
			ok(t, e)
			put(t, w, v, n, api.OK)
		}
		wrote(t, w, 8*len(b), b...)
	}
}

func TestP1_6TakenTwiceIsTakenOnceInTwoParts(t *testing.T) {
	s := steps(3)
	for range 500 {
		b := s.bytes(10)
		n := s.below(33)
		first := s.below(n + 1)
		r := bits.NewReader(b)
		r.Take(s.below(33))
		low, e1 := r.Take(first)
		high, e2 := r.Take(n - first)
		ok(t, e1)
		ok(t, e2)
		ok(t, r.Back(n))
		take(t, r, n, low|high<<first, api.OK)
	}
}

// reading is the chapter's reader in its plainest form.
type reading struct {
	row  []bool
	gone int
}

func (m *reading) take(n int) (uint32, api.Errno) {
	switch {
	case n < 0 || n > 32:
		return 0, api.ErrArg
	case n > len(m.row)-m.gone:
		return 0, api.ErrBitsEnd
	}
	m.gone += n
	return numberOfRow(m.row[m.gone-n : m.gone]), api.OK
}

func (m *reading) back(n int) api.Errno {
	if n < 0 || n > m.gone {
		return api.ErrArg
	}
	m.gone -= n
	return api.OK
}

func TestReaderInWhateverOrder(t *testing.T) {
	s := steps(4)
	for range 300 {
		b := s.bytes(s.below(6))
		r, m := bits.NewReader(b), &reading{row: rowOfBytes(b)}
		for range 60 {
			switch s.below(8) {
			case 0:
				more := s.bytes(s.below(5))
				ok(t, r.More(more))
				m.row = append(m.row, rowOfBytes(more)...)
			case 1:
				n := s.below(m.gone+4) - 1
				if got, want := r.Back(n), m.back(n); got != want {
					t.Fatalf("Back(%d) = %d, want %d", n, got, want)
				}
			case 2:
				ok(t, r.Align())
				for m.gone%8 != 0 {
					m.gone++
				}
			default:
				n := s.below(36) - 1
				v, e := m.take(n)
				take(t, r, n, v, e)
			}
			stands(t, r, m.gone, len(m.row)-m.gone)
		}
	}
}

func TestR2BytesAreNewMemory(t *testing.T) {
	w := bits.NewWriter()
	put(t, w, 0x0201, 16, api.OK)
	first, second := w.Bytes(), w.Bytes()
	for _, b := range [][]byte{first[:cap(first)], second[:cap(second)]} {
		for i := range b {
			b[i] = 0xff
		}
		wrote(t, w, 16, 0x01, 0x02)
	}
	first[0] = 7
	if second[0] != 0xff {
		t.Error("two answers share memory")
	}
	held := w.Bytes()
	put(t, w, 0xff, 8, api.OK)
	if !bytes.Equal(held, []byte{0x01, 0x02}) || slices.Contains(held[:cap(held)], 0xff) {
		t.Errorf("a later Put changed an answer: %x", held[:cap(held)])
	}
	wrote(t, w, 24, 0x01, 0x02, 0xff)
}

func TestR2ListsHandedInAreNotKept(t *testing.T) {
	for _, room := range []int{4, 64} {
		first, second, third := make([]byte, 2, room), make([]byte, 2, room), make([]byte, 2, room)
		spoil := func() {
			for _, b := range [][]byte{first, second, third} {
				for i := range b[:cap(b)] {
					b[:cap(b)][i] = 9
				}
			}
		}
		copy(first, []byte{1, 2})
		r := bits.NewReader(first)
		spoil()
		take(t, r, 16, 0x0201, api.OK)
		copy(second, []byte{3, 4})
		ok(t, r.More(second))
		spoil()
		take(t, r, 16, 0x0403, api.OK)
		empty := bits.NewReader(nil) // the one to which a list may seem to be all that it has
		copy(third, []byte{5, 6})
		ok(t, empty.More(third))
		spoil()
		take(t, empty, 16, 0x0605, api.OK)
	}
}

func TestR2ListsHandedInAreNotWrittenInto(t *testing.T) {
	first, second := []byte{1, 2, 77, 78}, []byte{3, 4, 79, 80}
	r := bits.NewReader(first[:2])
	ok(t, r.More(second[:2]))
	ok(t, r.More([]byte{5, 6}))
	take(t, r, 32, 0x04030201, api.OK)
	ok(t, r.Align())
	ok(t, r.Back(20))
	if !bytes.Equal(first, []byte{1, 2, 77, 78}) || !bytes.Equal(second, []byte{3, 4, 79, 80}) {
		t.Errorf("lists handed in were changed: %v, %v", first, second)
	}
}

func TestR2ObjectsKnowNothingOfOneAnother(t *testing.T) {
	shared := []byte{0x5a, 0xa5}
	one, two := bits.NewReader(shared), bits.NewReader(shared)
	take(t, one, 12, 0x55a, api.OK)
	ok(t, one.More([]byte{1}))
	stands(t, two, 0, 16)
	take(t, two, 16, 0xa55a, api.OK)
	v, w := bits.NewWriter(), bits.NewWriter()
	put(t, v, 3, 2, api.OK)
	wrote(t, w, 0)
}

func TestR3NilWriter(t *testing.T) {
	var w *bits.Writer
	put(t, w, 1, 1, api.ErrNil)
	put(t, w, 1, 0, api.ErrNil) // ahead of ErrArg
	put(t, w, 0, 33, api.ErrNil)
	if e := w.Align(); e != api.ErrNil {
		t.Errorf("Align() = %d, want ErrNil", e)
	}
	wrote(t, w, 0)
}

func TestR3NilReader(t *testing.T) {
	var r *bits.Reader
	take(t, r, 0, 0, api.ErrNil)
	take(t, r, 1, 0, api.ErrNil) // ahead of ErrBitsEnd
	take(t, r, 33, 0, api.ErrNil)
	take(t, r, -1, 0, api.ErrNil)
	if a, b, m := r.Align(), r.Back(1), r.More([]byte{1}); a != api.ErrNil || b != api.ErrNil || m != api.ErrNil {
		t.Errorf("Align, Back, More = %d, %d, %d, want ErrNil each", a, b, m)
	}
	stands(t, r, 0, 0)
}
