package lens_test

import (
	"bytes"
	"compress/flate"
	"io"
	"math"
	"math/rand/v2"
	"slices"
	"strings"
	"testing"

	"haversack/api"
	"haversack/bits"
	"haversack/huff"
	"haversack/lens"
)

// mixed tells numbers that look mixed and are the same in each run.
func mixed(seed uint64) *rand.Rand { return rand.New(rand.NewPCG(seed, 4)) }

func same(n, v int) []int { return slices.Repeat([]int{v}, n) }

func join[T any](lists ...[]T) []T { return slices.Concat(lists...) }

// st pairs symbols with what is extra.
func st(numbers ...int) []api.Step {
	var out []api.Step
	for pair := range slices.Chunk(numbers, 2) {
		out = append(out, api.Step{Sym: pair[0], Extra: pair[1]})
	}
	return out
}

// mixedLengths are n lengths in rows, short ones and long ones.
func mixedLengths(r *rand.Rand, n int) []int {
	var out []int
	longest, values := 1+r.IntN(160), 1+r.IntN(16)
	for len(out) < n {
		out = append(out, same(1+r.IntN(1+r.IntN(longest)), r.IntN(values))...)
	}
	return out[:n]
}

// slowPack is P4.1 word by word.
func slowPack(l []int) []api.Step {
	var out []api.Step
	for at := 0; at < len(l); {
		v, n := l[at], 0
		for at < len(l) && l[at] == v {
			n++
			at++
		}
		if v == 0 {
			for n >= 11 {
				out = append(out, api.Step{Sym: 18, Extra: min(n, 138) - 11})
				n -= min(n, 138)
			}
			if n >= 3 {
				out = append(out, api.Step{Sym: 17, Extra: n - 3})
				n = 0
			}
		} else {
			out = append(out, api.Step{Sym: v})
			n--
			for n >= 3 {
				out = append(out, api.Step{Sym: 16, Extra: min(n, 6) - 3})
				n -= min(n, 6)
			}
		}
		for ; n > 0; n-- {
			out = append(out, api.Step{Sym: v})
		}
	}
	return out
}

// slowSay is what a step says behind some lengths; false, if it is none or there is nothing ahead.
func slowSay(l []int, s api.Step) ([]int, bool) {
	switch {
	case s.Sym >= 0 && s.Sym <= 15 && s.Extra == 0:
		return join(l, []int{s.Sym}), true
	case s.Sym == 16 && s.Extra >= 0 && s.Extra <= 3 && len(l) > 0:
		return join(l, same(s.Extra+3, l[len(l)-1])), true
	case s.Sym == 17 && s.Extra >= 0 && s.Extra <= 7:
		return join(l, same(s.Extra+3, 0)), true
	case s.Sym == 18 && s.Extra >= 0 && s.Extra <= 127:
		return join(l, same(s.Extra+11, 0)), true
	}
	return nil, false
}

// slowUnpack is P4.2 word by word.
func slowUnpack(s []api.Step, n int) ([]int, api.Errno) {
	if n < 0 || n > 316 {
		return nil, api.ErrArg
	}
	var l []int
	for _, step := range s {
		said, ok := slowSay(l, step)
		if !ok || len(said) > n {
			return nil, api.ErrLensStep
		}
		l = said
	}
	if len(l) < n {
		return nil, api.ErrLensStep
	}
	return l, api.OK
}

// stepOrder is chapter 5's, in which the lengths of the steps' codes come.
func stepOrder() []int {
	return []int{16, 17, 18, 0, 8, 7, 9, 6, 10, 5, 11, 4, 12, 3, 13, 2, 14, 1, 15}
}

// letters are bits as the letters 0 and 1, of which the first ones are gone.
type letters struct {
	row string
	at  int
}

func (x *letters) number(n int) (int, bool) {
	if len(x.row)-x.at < n {
		return 0, false
	}
	v, weight := 0, 1
	for _, letter := range x.row[x.at : x.at+n] {
		if letter == '1' {
			v += weight
		}
		weight *= 2
	}
	x.at += n
	return v, true
}

// rowOf is a number of n bits as letters.
func rowOf(v uint32, n int) string {
	var out strings.Builder
	for range n {
		out.WriteByte('0' + byte(v%2))
		v /= 2
	}
	return out.String()
}

// rowsOf are the codes of a list of lengths, if it passes.
func rowsOf(l []int) []string {
	codes, _ := huff.Codes(l)
	out := make([]string, len(l))
	for sym, code := range codes {
		out[sym] = rowOf(code, l[sym])
	}
	return out
}

func (x *letters) code(rows []string) (int, api.Errno) {
	left := x.row[x.at:]
	e := api.ErrHuffCode
	for sym, row := range rows {
		if row == "" {
			continue
		}
		if strings.HasPrefix(left, row) {
			x.at += len(row)
			return sym, api.OK
		}
		if strings.HasPrefix(row, left) {
			e = api.ErrBitsEnd
		}
	}
	return 0, e
}

// slowRead is P4.4 word by word; how many bits are taken comes behind the lists.
func slowRead(row string) (lit, dist []int, taken int, e api.Errno) {
	x := &letters{row: row}
	var numbers [3]int
	for i, n := range []int{5, 5, 4} {
		v, ok := x.number(n)
		if !ok {
			return nil, nil, 0, api.ErrBitsEnd
		}
		numbers[i] = v
	}
	lits, dists, come := numbers[0]+257, numbers[1]+1, numbers[2]+4
	if lits > 286 || dists > 30 {
		return nil, nil, 0, api.ErrLensHead
	}
	l := same(19, 0)
	for _, sym := range stepOrder()[:come] {
		v, ok := x.number(3)
		if !ok {
			return nil, nil, 0, api.ErrBitsEnd
		}
		l[sym] = v
	}
	if e := huff.Check(l); e != api.OK {
		return nil, nil, 0, e
	}
	both, e := slowSteps(x, rowsOf(l), lits+dists)
	if e != api.OK {
		return nil, nil, 0, e
	}
	return both[:lits], both[lits:], x.at, api.OK
}

func slowSteps(x *letters, rows []string, n int) ([]int, api.Errno) {
	var both []int
	for len(both) < n {
		sym, e := x.code(rows)
		if e != api.OK {
			return nil, e
		}
		extra, ok := x.number(widthOf(sym))
		if !ok {
			return nil, api.ErrBitsEnd
		}
		said, ok := slowSay(both, api.Step{Sym: sym, Extra: extra})
		if !ok || len(said) > n {
			return nil, api.ErrLensStep
		}
		both = said
	}
	return both, api.OK
}

// widthOf: the bits of what is extra.
func widthOf(sym int) int { return map[int]int{16: 2, 17: 3, 18: 7}[sym] }

// headOf lays a head piece by piece, right or wrong: the three numbers, as many of the steps' codes' lengths as come
// (of the 19 steps), and the steps by these codes.
func headOf(lits, dists, come int, l []int, steps []api.Step) string {
	out := rowOf(uint32(lits-257), 5) + rowOf(uint32(dists-1), 5) + rowOf(uint32(come-4), 4)
	for _, sym := range stepOrder()[:come] {
		out += rowOf(uint32(l[sym]), 3)
	}
	rows := rowsOf(l)
	for _, s := range steps {
		out += rows[s.Sym] + rowOf(uint32(s.Extra), widthOf(s.Sym))
	}
	return out
}

// codes is the list of the 19 steps' codes' lengths, told by pairs of a step and its length.
func codes(pairs ...int) []int {
	out := same(19, 0)
	for pair := range slices.Chunk(pairs, 2) {
		out[pair[0]] = pair[1]
	}
	return out
}

// each is a list of codes that passes and has a code for each step.
func each() []int { return join(same(13, 4), same(6, 5)) }

// readerOf tells a reader that has just these bits left, with some gone ahead of them.
func readerOf(t *testing.T, row string) *bits.Reader {
	t.Helper()
	ahead := 16 - len(row)%8
	w := bits.NewWriter()
	w.Put(0x5a5a&(1<<ahead-1), ahead)
	for _, x := range row {
		w.Put(uint32(x-'0'), 1)
	}
	r := bits.NewReader(w.Bytes())
	r.Take(ahead)
	if r.Left() != len(row) {
		t.Fatalf("%d bits are left, of %d", r.Left(), len(row))
	}
	return r
}

// laidBy tells what a writer laid, as letters.
func laidBy(w *bits.Writer) string {
	var out strings.Builder
	for _, x := range w.Bytes() {
		out.WriteString(rowOf(uint32(x), 8))
	}
	return out.String()[:w.Len()]
}

func packs(t *testing.T, l []int, want []api.Step) {
	t.Helper()
	if s, e := lens.Pack(l); !slices.Equal(s, want) || e != api.OK {
		t.Errorf("Pack(%v) = %v, %d, want %v", l, s, e, want)
	}
}

func notPacked(t *testing.T, l []int) {
	t.Helper()
	if s, e := lens.Pack(l); len(s) != 0 || e != api.ErrArg {
		t.Errorf("Pack(%v) = %v, %d, want ErrArg", l, s, e)
	}
}

func unpacks(t *testing.T, s []api.Step, n int, want []int, wantErr api.Errno) {
	t.Helper()
	if l, e := lens.Unpack(s, n); !slices.Equal(l, want) || e != wantErr {
		t.Errorf("Unpack(%v, %d) = %v, %d, want %v, %d", s, n, l, e, want, wantErr)
	}
}

// reads holds Read against the words, and answers its error.
func reads(t *testing.T, row string) api.Errno {
	t.Helper()
	lit, dist, taken, want := slowRead(row)
	r := readerOf(t, row)
	gone := r.Gone()
	gotLit, gotDist, e := lens.Read(r)
	if e != want {
		t.Errorf("Read of %s: %d, want %d", row, e, want)
	}
	if !slices.Equal(gotLit, lit) || !slices.Equal(gotDist, dist) {
		t.Errorf("Read of %s: %v, %v, want %v, %v", row, gotLit, gotDist, lit, dist)
	}
	if r.Gone()-gone != taken {
		t.Errorf("Read of %s takes %d bits, want %d", row, r.Gone()-gone, taken)
	}
	return e
}

// readsAs: Read answers this, as the words ask.
func readsAs(t *testing.T, row string, want api.Errno) {
	t.Helper()
	if e := reads(t, row); e != want {
		t.Errorf("Read of %s = %d, want %d", row, e, want)
	}
}

// writes holds Write against the words: the head tells the lists and is short enough; it is answered as letters.
func writes(t *testing.T, lit, dist []int) string {
	t.Helper()
	w := bits.NewWriter()
	if e := lens.Write(w, lit, dist); e != api.OK {
		t.Fatalf("Write(%v, %v) = %d", lit, dist, e)
	}
	row := laidBy(w)
	if most := 71 + 14*(len(lit)+len(dist)); len(row) > most {
		t.Errorf("Write(%v, %v) lays %d bits, above %d", lit, dist, len(row), most)
	}
	gotLit, gotDist, taken, e := slowRead(row)
	if !slices.Equal(gotLit, lit) || !slices.Equal(gotDist, dist) || taken != len(row) || e != api.OK {
		t.Errorf("Write(%v, %v) lays what says %v, %v, %d by %d of %d bits", lit, dist, gotLit, gotDist, e, taken, len(row))
	}
	readsAs(t, row, api.OK)
	return row
}

func notWritten(t *testing.T, lit, dist []int) {
	t.Helper()
	w := bits.NewWriter()
	w.Put(5, 3)
	if e := lens.Write(w, lit, dist); e != api.ErrArg {
		t.Errorf("Write(%v, %v) = %d, want ErrArg", lit, dist, e)
	}
	if w.Len() != 3 || !bytes.Equal(w.Bytes(), []byte{5}) {
		t.Errorf("Write(%v, %v) lays %d bits beside its error", lit, dist, w.Len()-3)
	}
}

// wrongLengths are none that a code may have.
func wrongLengths() []int { return []int{16, -1, 17, 18, 19, 256, math.MaxInt, math.MinInt} }

func TestP4_1PackOfExamples(t *testing.T) {
	packs(t, []int{0, 0, 0, 3, 3, 3, 3, 3, 0}, st(17, 0, 3, 0, 16, 1, 0, 0))
	packs(t, same(150, 0), st(18, 127, 18, 1))
	packs(t, same(139, 0), st(18, 127, 0, 0))
	packs(t, []int{7, 7, 7}, st(7, 0, 7, 0, 7, 0))
	notPacked(t, []int{16})
	notPacked(t, same(317, 0))
}

func TestP4_1PackOfRowsOfNoughts(t *testing.T) {
	for n, want := range map[int][]api.Step{
		0: nil, 1: st(0, 0), 2: st(0, 0, 0, 0), 3: st(17, 0), 4: st(17, 1), 9: st(17, 6), 10: st(17, 7),
		11: st(18, 0), 12: st(18, 1), 137: st(18, 126), 138: st(18, 127),
		139: st(18, 127, 0, 0), 140: st(18, 127, 0, 0, 0, 0), 141: st(18, 127, 17, 0), 148: st(18, 127, 17, 7),
		149: st(18, 127, 18, 0), 150: st(18, 127, 18, 1), 276: st(18, 127, 18, 127),
		277: st(18, 127, 18, 127, 0, 0), 287: st(18, 127, 18, 127, 18, 0), 316: st(18, 127, 18, 127, 18, 29),
	} {
		packs(t, same(n, 0), want)
	}
}

func TestP4_1PackOfRowsOfLikeLengths(t *testing.T) {
	for v := 1; v <= 15; v++ {
		for n, want := range map[int][]api.Step{
			1: st(v, 0), 2: st(v, 0, v, 0), 3: st(v, 0, v, 0, v, 0),
			4: st(v, 0, 16, 0), 5: st(v, 0, 16, 1), 6: st(v, 0, 16, 2), 7: st(v, 0, 16, 3),
			8: st(v, 0, 16, 3, v, 0), 9: st(v, 0, 16, 3, v, 0, v, 0), 10: st(v, 0, 16, 3, 16, 0),
			13: st(v, 0, 16, 3, 16, 3), 14: st(v, 0, 16, 3, 16, 3, v, 0),
		} {
			packs(t, same(n, v), want)
		}
	}
}

func TestP4_1PackOfRowsOneBehindTheOther(t *testing.T) {
	packs(t, []int{4, 4, 4, 4, 5, 5, 5, 5, 4}, st(4, 0, 16, 0, 5, 0, 16, 0, 4, 0))
	packs(t, []int{0, 1, 0, 1, 0, 0, 1, 1}, st(0, 0, 1, 0, 0, 0, 1, 0, 0, 0, 0, 0, 1, 0, 1, 0))
	packs(t, join(same(11, 0), same(4, 15), same(10, 0)), st(18, 0, 15, 0, 16, 0, 17, 7))
	packs(t, join(same(2, 0), same(3, 9), same(2, 0)), st(0, 0, 0, 0, 9, 0, 9, 0, 9, 0, 0, 0, 0, 0))
}

func TestP4_1PackOfEachRow(t *testing.T) {
	for n := range 317 {
		for _, v := range []int{0, 1, 15} {
			packs(t, same(n, v), slowPack(same(n, v)))
		}
	}
}

func TestP4_1PackOfMixedLists(t *testing.T) {
	r := mixed(1)
	for range 2000 {
		l := mixedLengths(r, r.IntN(317))
		packs(t, l, slowPack(l))
	}
}

func TestP4_1PackOfNumbersOfLengths(t *testing.T) {
	packs(t, nil, nil)
	packs(t, []int{}, nil)
	for _, v := range []int{0, 1, 15} {
		packs(t, same(316, v), slowPack(same(316, v)))
		notPacked(t, same(317, v))
		notPacked(t, same(5000, v))
	}
}

func TestP4_1PackOfLengthsThatMayNotBe(t *testing.T) {
	packs(t, []int{15}, st(15, 0))
	for _, v := range wrongLengths() {
		notPacked(t, []int{v})
		notPacked(t, []int{v, 3, 3})
		notPacked(t, []int{3, v, 3})
		notPacked(t, join(same(315, 0), []int{v}))
		notPacked(t, same(20, v))
	}
}

func TestP4_2UnpackOfExamples(t *testing.T) {
	s := st(5, 0, 16, 3)
	unpacks(t, s, 7, same(7, 5), api.OK)
	unpacks(t, s, 6, nil, api.ErrLensStep)
	unpacks(t, s, 8, nil, api.ErrLensStep)
	unpacks(t, st(16, 0), 3, nil, api.ErrLensStep)
	unpacks(t, st(5, 1), 1, nil, api.ErrLensStep)
	unpacks(t, st(19, 0), 1, nil, api.ErrLensStep)
}

func TestP4_2UnpackOfEachSymbolAndExtra(t *testing.T) {
	least := map[int]int{16: 3, 17: 3, 18: 11}
	most := map[int]int{16: 3, 17: 7, 18: 127}
	for sym := range 19 {
		first := max(1, least[sym])
		value := sym
		if sym == 16 {
			value = 6
		} else if sym > 16 {
			value = 0
		}
		for _, extra := range []int{0, most[sym] / 2, most[sym]} {
			n := first + extra
			unpacks(t, join(st(6, 0), st(sym, extra)), 1+n, join([]int{6}, same(n, value)), api.OK)
			unpacks(t, join(st(6, 0), st(sym, extra)), n, nil, api.ErrLensStep)
			unpacks(t, join(st(6, 0), st(sym, extra)), n+2, nil, api.ErrLensStep)
		}
		for _, extra := range []int{-1, most[sym] + 1, -first, math.MaxInt, math.MinInt} {
			for _, n := range []int{1, 2, first, 1 + first, first + extra, 1 + first + extra, 316} {
				if n >= 0 && n <= 316 {
					unpacks(t, join(st(6, 0), st(sym, extra)), n, nil, api.ErrLensStep)
				}
			}
		}
	}
}

func TestP4_2UnpackOfSymbolsThatAreNone(t *testing.T) {
	for _, sym := range []int{-1, 19, 20, -16, 255, math.MaxInt, math.MinInt} {
		for _, extra := range []int{-1, 0, 1, 3, 7, 127} {
			for n := range 12 {
				unpacks(t, st(sym, extra), n, nil, api.ErrLensStep)
				unpacks(t, st(1, 0, sym, extra), n, nil, api.ErrLensStep)
			}
		}
	}
}

func TestP4_2UnpackOfSixteen(t *testing.T) {
	for extra := range 4 {
		n := 3 + extra
		unpacks(t, st(16, extra), n, nil, api.ErrLensStep)
		unpacks(t, st(16, extra, 5, 0), n+1, nil, api.ErrLensStep)
		unpacks(t, st(0, 0, 16, extra), n+1, same(n+1, 0), api.OK)
		unpacks(t, st(17, 2, 16, extra), n+5, same(n+5, 0), api.OK)
		unpacks(t, st(18, 2, 16, extra), n+13, same(n+13, 0), api.OK)
		unpacks(t, st(9, 0, 16, 1, 16, extra), n+5, same(n+5, 9), api.OK)
		unpacks(t, st(9, 0, 2, 0, 16, extra), n+2, join([]int{9}, same(n+1, 2)), api.OK)
	}
}

func TestP4_2UnpackOfNumbersOfLengths(t *testing.T) {
	for _, n := range []int{-1, 317, 318, 1 << 40, math.MaxInt, math.MinInt} {
		unpacks(t, nil, n, nil, api.ErrArg)
		unpacks(t, st(5, 0), n, nil, api.ErrArg)
		unpacks(t, st(19, 0), n, nil, api.ErrArg) // ahead of ErrLensStep
		unpacks(t, slowPack(same(317, 0)), n, nil, api.ErrArg)
	}
	unpacks(t, nil, 0, nil, api.OK)
	unpacks(t, []api.Step{}, 0, nil, api.OK)
	unpacks(t, nil, 1, nil, api.ErrLensStep)
	unpacks(t, nil, 316, nil, api.ErrLensStep)
	unpacks(t, st(1, 0), 0, nil, api.ErrLensStep)
	for _, v := range []int{0, 1, 15} {
		unpacks(t, slowPack(same(316, v)), 316, same(316, v), api.OK)
		unpacks(t, slowPack(same(315, v)), 316, nil, api.ErrLensStep)
		unpacks(t, slowPack(same(317, v)), 316, nil, api.ErrLensStep)
		unpacks(t, slowPack(same(316, v)), 315, nil, api.ErrLensStep)
	}
}

func TestP4_2UnpackLooksAtAllSteps(t *testing.T) {
	for _, s := range [][]api.Step{st(19, 0), st(-1, 0), st(3, 1), st(16, 4), st(17, -1), st(0, 0), st(16, 0)} {
		unpacks(t, join(st(2, 0, 17, 0), s), 4, nil, api.ErrLensStep)
	}
	many := slices.Repeat(st(3, 0), 100000)
	unpacks(t, many, 316, nil, api.ErrLensStep)
}

func TestP4_2UnpackOfAllShortLists(t *testing.T) {
	some := st(0, 0, 15, 0, 4, 1, 16, 0, 16, 1, 16, 4, 17, 0, 17, 1, 17, 8, 18, 0, 18, -1, 19, 0, -1, 0)
	try := func(s ...api.Step) {
		for n := range 16 {
			want, e := slowUnpack(s, n)
			unpacks(t, s, n, want, e)
		}
	}
	for _, a := range some {
		try(a)
		for _, b := range some {
			try(a, b)
			for _, c := range some {
				try(a, b, c)
			}
		}
	}
}

func TestP4_2UnpackOfMixedSteps(t *testing.T) {
	r := mixed(2)
	for range 2000 {
		var s []api.Step
		for range r.IntN(60) {
			sym := r.IntN(19)
			s = append(s, api.Step{Sym: sym, Extra: r.IntN(1 << widthOf(sym))})
		}
		var l []int
		for _, step := range s {
			l, _ = slowSay(l, step)
		}
		for n := len(l) - 1; n <= len(l)+1; n++ {
			want, e := slowUnpack(s, n)
			unpacks(t, s, n, want, e)
		}
	}
}

func TestP4_3WriteOfNumbersOfLengths(t *testing.T) {
	for _, v := range []int{0, 1, 15} {
		for _, lits := range []int{257, 258, 285, 286} {
			for _, dists := range []int{1, 2, 29, 30} {
				writes(t, same(lits, v), same(dists, v))
				writes(t, same(lits, v), same(dists, 7))
			}
			notWritten(t, same(lits, v), nil)
			notWritten(t, same(lits, v), same(31, v))
			notWritten(t, same(lits, v), same(32, v))
			notWritten(t, same(lits, v), same(5000, v))
		}
		for _, lits := range []int{0, 1, 256, 287, 288, 5000} {
			notWritten(t, same(lits, v), same(1, v))
			notWritten(t, same(lits, v), same(30, v))
			notWritten(t, same(lits, v), nil)
		}
	}
}

func TestP4_3WriteOfLengthsThatMayNotBe(t *testing.T) {
	for _, v := range wrongLengths() {
		for _, at := range []int{0, 100, 256} {
			lit := same(257, 8)
			lit[at] = v
			notWritten(t, lit, same(5, 3))
		}
		for _, at := range []int{0, 2, 4} {
			dist := same(5, 3)
			dist[at] = v
			notWritten(t, same(257, 8), dist)
		}
	}
}

func TestP4_3WriteOfNoughtsAlone(t *testing.T) {
	for lits := 257; lits <= 286; lits++ {
		for dists := 1; dists <= 30; dists++ {
			writes(t, same(lits, 0), same(dists, 0))
		}
	}
}

func TestP4_3WriteOfMixedLists(t *testing.T) {
	r := mixed(3)
	for range 300 {
		writes(t, mixedLengths(r, 257+r.IntN(30)), mixedLengths(r, 1+r.IntN(30)))
	}
	for range 300 {
		both := mixedLengths(r, 316) // rows may reach from the literals into the distances
		writes(t, both[:286], both[286:])
	}
}

func TestP4_3WriteOfListsWithoutRows(t *testing.T) {
	r := mixed(4)
	for range 200 {
		both := make([]int, 316)
		for i := range both {
			both[i] = r.IntN(16)
		}
		writes(t, both[:286], both[286:])
	}
}

// steepLengths are 258 lengths without long rows, whose steps are of counts so far apart that the shortest codes for
// them would be longer than a head can say.
func steepLengths(t *testing.T, shift int) []int {
	var rare []int
	for i, n := range []int{1, 1, 2, 3, 5, 8, 13, 21, 34, 55} {
		rare = append(rare, same(n, 1+(i+shift)%15)...)
	}
	var out []int
	for i, v := range rare {
		out = append(out, 1+(shift+10)%15)
		if i%5 == 0 {
			out = append(out, out[len(out)-1])
		}
		out = append(out, v)
	}
	out = append(out, same(3, 1+(shift+10)%15)...)
	for len(out) < 258 {
		out = append(out, 1+(shift+9)%15)
	}
	out = out[:258]
	counts := make([]int, 19)
	for _, s := range slowPack(out) {
		counts[s.Sym]++
	}
	if l, e := huff.Limit(counts, 15); e != api.OK || slices.Max(l) < 8 {
		t.Fatalf("the counts %v are not steep: %v, %d", counts, l, e)
	}
	return out
}

func TestP4_3WriteOfStepsOfSteepCounts(t *testing.T) {
	for shift := range 15 {
		both := steepLengths(t, shift)
		writes(t, both[:257], both[257:])
	}
}

func TestP4_3WriteLaysTheSameEachTime(t *testing.T) {
	r := mixed(5)
	for range 20 {
		lit, dist := mixedLengths(r, 270), mixedLengths(r, 20)
		first := writes(t, lit, dist)
		if second := writes(t, lit, dist); second != first {
			t.Errorf("Write(%v, %v) lays %s, then %s", lit, dist, first, second)
		}
	}
}

// textOf is bytes of some letters, the first ones more often.
func textOf(r *rand.Rand, n int) []byte {
	out := make([]byte, n)
	for i := range out {
		out[i] = byte('a' + r.IntN(1+r.IntN(26)))
	}
	return out
}

func TestP4_3WriteIsReadByAnotherProgram(t *testing.T) {
	r := mixed(13)
	for range 50 {
		text := textOf(r, 1+r.IntN(2000))
		counts := same(257+r.IntN(30), 0)
		counts[256] = 1
		for _, x := range text {
			counts[x]++
		}
		lit, e := huff.Limit(counts, 15)
		if e != api.OK {
			t.Fatalf("Limit = %d", e)
		}
		w := bits.NewWriter()
		w.Put(1, 1)
		w.Put(2, 2)
		lens.Write(w, lit, join(same(r.IntN(29), 0), []int{1}))
		codes, _ := huff.Codes(lit)
		for _, x := range text {
			w.Put(codes[x], lit[x])
		}
		w.Put(codes[256], lit[256])
		got, err := io.ReadAll(flate.NewReader(bytes.NewReader(w.Bytes())))
		if !bytes.Equal(got, text) || err != nil {
			t.Fatalf("%q is read as %q, %v", text, got, err)
		}
	}
}

func TestP4_4ReadOfExamples(t *testing.T) {
	readsAs(t, "", api.ErrBitsEnd)
	readsAs(t, strings.Repeat("1", 16), api.ErrLensHead)
	for b, want := range map[string]api.Errno{"": api.ErrBitsEnd, "\xff\xff": api.ErrLensHead} {
		r := bits.NewReader([]byte(b))
		if lit, dist, e := lens.Read(r); e != want || len(lit) != 0 || len(dist) != 0 || r.Gone() != 0 {
			t.Errorf("Read of %x = %v, %v, %d, want %d", b, lit, dist, e, want)
		}
	}
}

func TestP4_4ReadOfAHeadByHand(t *testing.T) {
	row := "00000" + "10100" + "0111" + // 257 literals, 6 distances, 18 lengths of codes
		"010" + "000" + "010" + strings.Repeat("000", 14) + "100" + // 16 has the code 10, 18 has 11, 1 has 0
		"0" + "11" + "1111111" + "11" + "1001011" + "10" + "00" + "0" + "10" + "10"
	lit, dist, e := lens.Read(readerOf(t, row))
	if want := join([]int{1}, same(256, 0)); !slices.Equal(lit, want) || e != api.OK {
		t.Errorf("literals %v, %d", lit, e)
	}
	if want := []int{0, 1, 1, 1, 1, 1}; !slices.Equal(dist, want) {
		t.Errorf("distances %v, want %v", dist, want)
	}
	readsAs(t, row, api.OK)
}

func TestP4_4ReadOfAnotherProgramsHeads(t *testing.T) {
	r := mixed(14)
	for range 50 {
		text := textOf(r, 1000+r.IntN(2000))
		var out bytes.Buffer
		w, _ := flate.NewWriter(&out, flate.HuffmanOnly)
		w.Write(text)
		w.Close()
		reader := bits.NewReader(out.Bytes())
		reader.Take(1)
		if kind, _ := reader.Take(2); kind != 2 {
			t.Fatalf("a block of kind %d", kind)
		}
		lit, _, e := lens.Read(reader)
		if e != api.OK {
			t.Fatalf("Read = %d", e)
		}
		d, e := huff.New(lit)
		var got []byte
		sym := 0
		for e == api.OK && sym != 256 {
			if sym, e = d.Next(reader); sym < 256 {
				got = append(got, byte(sym))
			}
		}
		if !bytes.Equal(got, text) || e != api.OK {
			t.Fatalf("%q is read as %q, %d", text, got, e)
		}
	}
}

func TestP4_4ReadOfNumbers(t *testing.T) {
	for lits := 257; lits <= 288; lits++ {
		for dists := 1; dists <= 32; dists++ {
			row := headOf(lits, dists, 19, each(), slowPack(same(lits+dists, 3)))
			want := api.OK
			if lits > 286 || dists > 30 {
				want = api.ErrLensHead
			}
			readsAs(t, row, want)
		}
	}
}

func TestP4_4ReadLooksAtTheNumbersBehindAllThree(t *testing.T) {
	for _, row := range []string{headOf(287, 1, 4, codes(), nil), headOf(257, 31, 4, codes(), nil), headOf(288, 32, 19, codes(), nil)} {
		for n := range 14 {
			readsAs(t, row[:n], api.ErrBitsEnd)
		}
		for n := 14; n <= len(row); n++ {
			readsAs(t, row[:n], api.ErrLensHead)
		}
	}
}

func TestP4_4ReadOfEachNumberOfCodes(t *testing.T) {
	// 18 and 0 are among the first four; the others stay without a code.
	for come := 4; come <= 19; come++ {
		readsAs(t, headOf(257, 1, come, codes(18, 1, 0, 1), slowPack(same(258, 0))), api.OK)
	}
	for last := 4; last < 19; last++ {
		sym := stepOrder()[last]
		steps := join(st(sym, 0), slowPack(same(257, 0)))
		l := codes(sym, 1, 18, 1)
		readsAs(t, headOf(257, 1, last+1, l, steps), api.OK)
		readsAs(t, headOf(257, 1, 19, l, steps), api.OK)
		// One length fewer leaves this step out: 18 stands alone, and no code begins with a 1.
		readsAs(t, headOf(257, 1, last, codes(18, 1), nil)+"1"+strings.Repeat("0", 20), api.ErrHuffCode)
	}
}

func TestP4_4ReadOfCodesThatDoNotPass(t *testing.T) {
	for want, all := range map[api.Errno][][]int{
		api.ErrHuffUnder: {codes(), codes(0, 2), codes(16, 7), codes(0, 1, 18, 2), codes(1, 2, 2, 2, 3, 2), same(19, 5)},
		api.ErrHuffOver:  {codes(0, 1, 17, 1, 18, 1), codes(0, 1, 18, 1, 15, 7), same(19, 4), same(19, 1)},
	} {
		for _, l := range all {
			row := headOf(260, 4, 19, l, nil)
			for _, behind := range []string{"", "1", strings.Repeat("10", 30), strings.Repeat("1", 300)} {
				readsAs(t, row+behind, want)
			}
			for n := range row {
				readsAs(t, row[:n], api.ErrBitsEnd)
			}
		}
	}
}

func TestP4_4ReadOfOneCodeAlone(t *testing.T) {
	row := headOf(257, 1, 4, codes(18, 1), nil)
	readsAs(t, row+"0"+rowOf(127, 7)+"0"+rowOf(109, 7), api.OK)
	readsAs(t, row+"1", api.ErrHuffCode)
	readsAs(t, row+"1"+strings.Repeat("0", 40), api.ErrHuffCode)
	readsAs(t, row+"0"+rowOf(127, 7)+"1"+rowOf(109, 7), api.ErrHuffCode)
	readsAs(t, row+"0"+rowOf(127, 7), api.ErrBitsEnd)
}

func TestP4_4ReadOfSixteenFirst(t *testing.T) {
	row := headOf(257, 1, 4, codes(16, 1, 0, 1), nil) // 0 has the code 0, 16 has 1
	for extra := range uint32(4) {
		full := row + "1" + rowOf(extra, 2)
		readsAs(t, full, api.ErrLensStep)
		readsAs(t, full+strings.Repeat("0", 300), api.ErrLensStep)
		readsAs(t, full[:len(full)-1], api.ErrBitsEnd) // its number is read ahead of that
		readsAs(t, full[:len(full)-2], api.ErrBitsEnd)
		readsAs(t, row+"0"+"1"+rowOf(extra, 2), api.ErrBitsEnd)
		readsAs(t, row+"0"+"1"+rowOf(extra, 2)+strings.Repeat("0", 258), api.OK)
	}
}

func TestP4_4ReadOfMoreLengthsThanThereAre(t *testing.T) {
	for _, sym := range []int{16, 17, 18} {
		least, most := map[int]int{16: 3, 17: 3, 18: 11}[sym], map[int]int{16: 6, 17: 10, 18: 138}[sym]
		for n := least; n <= most; n++ {
			for _, room := range []int{n - least + 1, n - 1, n, n + 1} {
				said := join(st(5, 0), slowPack(same(270+2-1-room, 0)))
				row := headOf(270, 2, 19, each(), join(said, st(sym, n-least)))
				switch {
				case room < n:
					readsAs(t, row, api.ErrLensStep)
					readsAs(t, row[:len(row)-1], api.ErrBitsEnd) // its number is read ahead of that
				case room == n:
					readsAs(t, row, api.OK)
				default:
					readsAs(t, row, api.ErrBitsEnd)
				}
			}
		}
	}
}

func TestP4_4ReadOfRowsFromLiteralsIntoDistances(t *testing.T) {
	for _, c := range []struct {
		steps []api.Step
		dist  []int
	}{
		{join(slowPack(same(255, 4)), st(9, 0, 16, 2)), same(4, 9)},
		{join(slowPack(same(256, 4)), st(9, 0, 16, 1)), same(4, 9)},
		{join(slowPack(same(255, 4)), st(17, 3)), same(4, 0)},
		{join(slowPack(same(120, 4)), st(18, 127, 17, 0)), same(4, 0)},
		{join(slowPack(same(257, 4)), st(1, 0, 2, 0, 3, 0, 15, 0)), []int{1, 2, 3, 15}},
	} {
		row := headOf(257, 4, 19, each(), c.steps)
		readsAs(t, row, api.OK)
		if lit, dist, _ := lens.Read(readerOf(t, row)); len(lit) != 257 || !slices.Equal(dist, c.dist) {
			t.Errorf("%v: %d literals, the distances %v, want %v", c.steps, len(lit), dist, c.dist)
		}
	}
}

func TestP4_4ReadDoesNotLookAtTheListsFurther(t *testing.T) {
	for _, both := range [][]int{same(260, 0), same(260, 1), same(260, 15), join(same(256, 8), same(4, 0))} {
		readsAs(t, headOf(257, 3, 19, each(), slowPack(both)), api.OK)
	}
}

func TestP4_4ReadOfHeadsThatEndAtEachPlace(t *testing.T) {
	r := mixed(6)
	rows := []string{
		headOf(257, 1, 4, codes(18, 1), st(18, 127, 18, 109)),
		headOf(286, 30, 19, each(), slowPack(mixedLengths(r, 316))),
		writes(t, mixedLengths(r, 286), mixedLengths(r, 30)),
		writes(t, mixedLengths(r, 257), mixedLengths(r, 1)),
	}
	for _, row := range rows {
		for n := range row {
			readsAs(t, row[:n], api.ErrBitsEnd)
		}
		readsAs(t, row, api.OK)
	}
}

func TestP4_4ReadTellsTheFirstOfSeveralFaults(t *testing.T) {
	bad := strings.Repeat("1", 40)
	readsAs(t, headOf(287, 31, 19, same(19, 1), nil)+bad, api.ErrLensHead)
	readsAs(t, headOf(287, 1, 4, codes(16, 1), nil)+"0"+bad, api.ErrLensHead)
	readsAs(t, headOf(286, 30, 19, same(19, 1), nil)+bad, api.ErrHuffOver)
	readsAs(t, headOf(286, 30, 19, codes(16, 2), nil)+"00", api.ErrHuffUnder)
	readsAs(t, headOf(286, 30, 19, same(19, 1), nil)[:70], api.ErrBitsEnd)
	one := headOf(257, 1, 4, codes(16, 1), nil)
	readsAs(t, one+"1"+bad, api.ErrHuffCode)
	readsAs(t, one+"000"+bad, api.ErrLensStep)
	readsAs(t, one+"00", api.ErrBitsEnd)
	some := headOf(257, 1, 4, codes(18, 1), st(18, 127))
	readsAs(t, some+"0"+rowOf(127, 7)+bad, api.ErrLensStep)
	readsAs(t, some+"1"+rowOf(127, 7), api.ErrHuffCode)
	readsAs(t, some+"0"+rowOf(63, 6), api.ErrBitsEnd)
}

// turned has some of a row's bits turned.
func turned(r *rand.Rand, row string, n int) string {
	out := []byte(row)
	for range n {
		out[r.IntN(len(out))] ^= '0' ^ '1'
	}
	return string(out)
}

func TestP4_4ReadOfSpoiltHeads(t *testing.T) {
	r := mixed(7)
	told := map[api.Errno]int{}
	for range 300 {
		row := headOf(257+r.IntN(30), 1+r.IntN(30), 19, each(), slowPack(mixedLengths(r, 316)))
		if r.IntN(2) == 0 {
			row = writes(t, mixedLengths(r, 257+r.IntN(30)), mixedLengths(r, 1+r.IntN(30)))
		}
		for range 20 {
			told[reads(t, turned(r, row, 1+r.IntN(3)))]++
			told[reads(t, turned(r, row, 3)[:r.IntN(len(row))])]++
		}
	}
	for _, e := range []api.Errno{api.OK, api.ErrBitsEnd, api.ErrLensHead, api.ErrHuffOver, api.ErrHuffUnder, api.ErrLensStep} {
		if told[e] == 0 {
			t.Errorf("no spoilt head is answered by %d", e)
		}
	}
}

func TestP4_4ReadOfMixedBits(t *testing.T) {
	r := mixed(8)
	for range 3000 {
		row := strings.Repeat("0", 4000)
		reads(t, turned(r, row, 4000)[:r.IntN(4000)])
		// Behind numbers and codes that may be, mixed steps go further.
		few := codes(r.IntN(19), 1, 16+r.IntN(3), 1)
		reads(t, headOf(257+r.IntN(30), 1+r.IntN(30), 19, few, nil)+turned(r, row, 4000)[:r.IntN(4000)])
		reads(t, headOf(257+r.IntN(30), 1+r.IntN(30), 19, each(), nil)+turned(r, row, 4000)[:r.IntN(4000)])
	}
}

func TestP4_5UnpackOfPackIsTheList(t *testing.T) {
	r := mixed(9)
	for range 2000 {
		l := mixedLengths(r, r.IntN(317))
		s, e := lens.Pack(l)
		if e != api.OK || len(s) > len(l) {
			t.Errorf("Pack(%v) = %d steps, %d", l, len(s), e)
		}
		unpacks(t, s, len(l), l, api.OK)
	}
	for n := range 317 {
		for v := range 16 {
			s, _ := lens.Pack(same(n, v))
			if len(s) > n {
				t.Errorf("%d times %d has %d steps", n, v, len(s))
			}
			unpacks(t, s, n, same(n, v), api.OK)
		}
	}
}

func TestP4_5WhatIsWrittenIsReadAmongOtherBits(t *testing.T) {
	r := mixed(10)
	for ahead := range 33 {
		for range 5 {
			front, behind := r.Uint32()&uint32(1<<ahead-1), r.Uint32()
			lit, dist := mixedLengths(r, 257+r.IntN(30)), mixedLengths(r, 1+r.IntN(30))
			w := bits.NewWriter()
			w.Put(front, ahead)
			if e := lens.Write(w, lit, dist); e != api.OK {
				t.Fatalf("Write = %d", e)
			}
			end := w.Len()
			w.Put(behind, 32)
			reader := bits.NewReader(w.Bytes())
			if v, _ := reader.Take(ahead); v != front {
				t.Errorf("the bits ahead are %x, want %x", v, front)
			}
			gotLit, gotDist, e := lens.Read(reader)
			if !slices.Equal(gotLit, lit) || !slices.Equal(gotDist, dist) || e != api.OK || reader.Gone() != end {
				t.Errorf("%v, %v are read as %v, %v, %d, with %d bits gone of %d", lit, dist, gotLit, gotDist, e, reader.Gone(), end)
			}
			if v, _ := reader.Take(32); v != behind {
				t.Errorf("the bits behind are %x, want %x", v, behind)
			}
		}
	}
}

func TestP4_5HeadsOneBehindTheOther(t *testing.T) {
	r := mixed(11)
	var lits, dists [][]int
	w := bits.NewWriter()
	for range 40 {
		lits = append(lits, mixedLengths(r, 257+r.IntN(30)))
		dists = append(dists, mixedLengths(r, 1+r.IntN(30)))
		lens.Write(w, lits[len(lits)-1], dists[len(dists)-1])
	}
	reader := bits.NewReader(w.Bytes())
	for i := range lits {
		lit, dist, e := lens.Read(reader)
		if !slices.Equal(lit, lits[i]) || !slices.Equal(dist, dists[i]) || e != api.OK {
			t.Fatalf("head %d is read as %v, %v, %d", i, lit, dist, e)
		}
	}
	if reader.Gone() != w.Len() {
		t.Errorf("%d bits are gone, %d were laid", reader.Gone(), w.Len())
	}
}

func TestP4_5ReadGoesOnWhenMoreBitsCome(t *testing.T) {
	lit, dist := join(same(256, 8), []int{9, 9}), []int{1, 1}
	w := bits.NewWriter()
	lens.Write(w, lit, dist)
	reader := bits.NewReader(nil)
	for _, x := range w.Bytes() {
		if _, _, e := lens.Read(reader); e != api.ErrBitsEnd || reader.Gone() != 0 {
			t.Fatalf("Read of a part = %d, with %d bits gone", e, reader.Gone())
		}
		reader.More([]byte{x})
	}
	if gotLit, gotDist, e := lens.Read(reader); !slices.Equal(gotLit, lit) || !slices.Equal(gotDist, dist) || e != api.OK {
		t.Errorf("Read of the whole = %v, %v, %d", gotLit, gotDist, e)
	}
}

func TestR1NothingStandsBesideAnError(t *testing.T) {
	if s, e := lens.Pack([]int{3, 3, 16}); s != nil || e == api.OK {
		t.Errorf("Pack = %v, %d", s, e)
	}
	for _, s := range [][]api.Step{st(5, 0, 19, 0), st(5, 0, 16, 3), st(5, 0, 5, 0)} {
		if l, e := lens.Unpack(s, 4); l != nil || e == api.OK {
			t.Errorf("Unpack(%v, 4) = %v, %d", s, l, e)
		}
	}
	row := headOf(257, 1, 19, each(), join(slowPack(same(256, 3)), st(17, 0)))
	for _, row := range []string{"", row, row[:len(row)-1], row[:30]} {
		if lit, dist, e := lens.Read(readerOf(t, row)); lit != nil || dist != nil || e == api.OK {
			t.Errorf("Read of %s = %v, %v, %d", row, lit, dist, e)
		}
	}
}

// spared is a list with spare room for another one behind it, which is not to be written into.
func spared(l []int) (list, whole []int) {
	whole = join(l, same(40, 77))
	return whole[:len(l)], whole
}

func TestR2ListsHandedInStayAsTheyAre(t *testing.T) {
	r := mixed(12)
	for range 50 {
		lit, wholeLit := spared(mixedLengths(r, 270))
		dist, wholeDist := spared(mixedLengths(r, 20))
		heldLit, heldDist := slices.Clone(wholeLit), slices.Clone(wholeDist)
		steps := join(slowPack(lit), st(77, 78, 79, 80))
		heldSteps := slices.Clone(steps)
		lens.Pack(lit)
		lens.Write(bits.NewWriter(), lit, dist)
		for n := 269; n <= 271; n++ {
			lens.Unpack(steps[:len(steps)-2], n)
		}
		if !slices.Equal(wholeLit, heldLit) || !slices.Equal(wholeDist, heldDist) || !slices.Equal(steps, heldSteps) {
			t.Fatalf("%v, %v or %v was written into", heldLit, heldDist, heldSteps)
		}
	}
}

func TestR2ListsThatShareMemoryStayAsTheyAre(t *testing.T) {
	both := join(same(257, 8), same(4, 3), same(40, 9))
	held := slices.Clone(both)
	writes(t, both[:257], both[257:261])
	writes(t, both[:260], both[:30])
	if !slices.Equal(both, held) {
		t.Errorf("%v became %v", held, both)
	}
}

func TestR2AnswersAreNewMemory(t *testing.T) {
	l := join(same(5, 3), same(12, 0))
	steps, _ := lens.Pack(l)
	others, _ := lens.Pack(l)
	for i := range steps {
		steps[i] = api.Step{Sym: 99, Extra: 99}
	}
	if want := slowPack(l); !slices.Equal(others, want) {
		t.Error("two answers of Pack share memory")
	}
	packs(t, l, slowPack(l))
	first, _ := lens.Unpack(others, len(l))
	second, _ := lens.Unpack(others, len(l))
	for i := range first {
		first[i] = 99
	}
	if !slices.Equal(second, l) || !slices.Equal(others, slowPack(l)) {
		t.Error("two answers of Unpack share memory")
	}
	unpacks(t, others, len(l), l, api.OK)
}

func TestR2TheTwoListsOfAHeadShareNoMemory(t *testing.T) {
	row := writes(t, same(257, 8), same(30, 5))
	r := readerOf(t, row)
	gone := r.Gone()
	lit, dist, _ := lens.Read(r)
	for i := range lit[:cap(lit)] {
		lit[:cap(lit)][i] = 99
	}
	if !slices.Equal(dist, same(30, 5)) {
		t.Errorf("writing into the literals and behind them made the distances %v", dist)
	}
	r.Back(r.Gone() - gone)
	otherLit, otherDist, e := lens.Read(r)
	if !slices.Equal(otherLit, same(257, 8)) || !slices.Equal(otherDist, same(30, 5)) || e != api.OK {
		t.Errorf("the head is read as %v, %v, %d once more", otherLit, otherDist, e)
	}
}

func TestR2ListsAreNotKept(t *testing.T) {
	lit, dist := same(257, 8), same(2, 1)
	w := bits.NewWriter()
	lens.Write(w, lit, dist)
	held := w.Bytes()
	for i := range lit {
		lit[i] = 15
	}
	dist[0], dist[1] = 7, 7
	if !bytes.Equal(w.Bytes(), held) {
		t.Error("what was laid changed with the lists")
	}
	steps := st(5, 0, 16, 0)
	l, _ := lens.Unpack(steps, 4)
	steps[0].Sym, steps[1].Sym = 9, 9
	if !slices.Equal(l, same(4, 5)) {
		t.Errorf("the lengths became %v", l)
	}
}

func TestR3NilObjects(t *testing.T) {
	for _, lit := range [][]int{nil, same(257, 8), same(256, 8), same(257, 16)} {
		for _, dist := range [][]int{nil, same(1, 1), same(31, 1), {-1}} {
			if e := lens.Write(nil, lit, dist); e != api.ErrNil {
				t.Errorf("Write to a nil writer = %d", e)
			}
		}
	}
	if lit, dist, e := lens.Read(nil); lit != nil || dist != nil || e != api.ErrNil {
		t.Errorf("Read of a nil reader = %v, %v, %d", lit, dist, e)
	}
}
