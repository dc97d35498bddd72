package inflate_test

import (
	"bytes"
	"compress/flate"
	"encoding/hex"
	"io"
	"math"
	"math/rand/v2"
	"slices"
	"strings"
	"sync"
	"testing"

	"haversack/api"
	"haversack/huff"
	"haversack/inflate"
	"haversack/lens"
)

// mixed tells numbers that look mixed and are the same in each run.
func mixed(seed uint64) *rand.Rand { return rand.New(rand.NewPCG(seed, 5)) }

func same(n, v int) []int { return slices.Repeat([]int{v}, n) }

func join[T any](lists ...[]T) []T { return slices.Concat(lists...) }

func unhex(text string) []byte {
	out, err := hex.DecodeString(strings.ReplaceAll(text, " ", ""))
	if err != nil {
		panic(err)
	}
	return out
}

func mixedBytes(r *rand.Rand, n int) []byte {
	out := make([]byte, n)
	for i := range out {
		out[i] = byte(r.Uint32())
	}
	return out
}

// num is a number of n bits as the letters 0 and 1.
func num(v, n int) string {
	var out strings.Builder
	for range n {
		out.WriteByte('0' + byte(v&1))
		v >>= 1
	}
	return out.String()
}

func lettersOf(b []byte) string {
	var out strings.Builder
	for _, x := range b {
		out.WriteString(num(int(x), 8))
	}
	return out.String()
}

// filled are the bytes of a row of letters, with as many ones as they need behind them.
func filled(row, one string) []byte {
	row += strings.Repeat(one, (8-len(row)%8)%8)
	out := make([]byte, len(row)/8)
	for i, letter := range row {
		if letter == '1' {
			out[i/8] |= 1 << (i % 8)
		}
	}
	return out
}

func bytesOf(row string) []byte { return filled(row, "0") }

// rowsOf are the codes of a list of lengths by chapter 3's words, the first bit first; "" where a symbol isn't used.
func rowsOf(l []int) []string {
	out := make([]string, len(l))
	next, long := 0, 0
	for n := 1; n <= 15; n++ {
		for sym := range l {
			if l[sym] == n {
				next <<= n - long
				long = n
				for bit := n - 1; bit >= 0; bit-- {
					out[sym] += num(next>>bit, 1)
				}
				next++
			}
		}
	}
	return out
}

// table is a list's codes, the other way round.
func table(l []int) map[string]int {
	out := map[string]int{}
	for sym, row := range rowsOf(l) {
		if row != "" {
			out[row] = sym
		}
	}
	return out
}

func fixedLits() []int { return join(same(144, 8), same(112, 9), same(24, 7), same(8, 8)) }

func fixedDists() []int { return same(32, 5) }

var (
	fixedLitTable  = sync.OnceValue(func() map[string]int { return table(fixedLits()) })
	fixedDistTable = sync.OnceValue(func() map[string]int { return table(fixedDists()) })
)

// What the symbols from 257 on and the distances' ones say at least, and how many bits come behind them.
var (
	lengthLeast = []int{3, 4, 5, 6, 7, 8, 9, 10, 11, 13, 15, 17, 19, 23, 27, 31, 35, 43, 51, 59, 67, 83, 99, 115, 131, 163, 195, 227, 258}
	lengthBits  = []int{0, 0, 0, 0, 0, 0, 0, 0, 1, 1, 1, 1, 2, 2, 2, 2, 3, 3, 3, 3, 4, 4, 4, 4, 5, 5, 5, 5, 0}
	distLeast   = []int{1, 2, 3, 4, 5, 7, 9, 13, 17, 25, 33, 49, 65, 97, 129, 193, 257, 385, 513, 769, 1025, 1537, 2049, 3073, 4097, 6145, 8193, 12289, 16385, 24577}
	distBits    = []int{0, 0, 0, 0, 1, 1, 2, 2, 3, 3, 4, 4, 5, 5, 6, 6, 7, 7, 8, 8, 9, 9, 10, 10, 11, 11, 12, 12, 13, 13}
	stepOrder   = []int{16, 17, 18, 0, 8, 7, 9, 6, 10, 5, 11, 4, 12, 3, 13, 2, 14, 1, 15}
)

// slow reads letters by the chapter's words; where they say an error, it panics with it.
type slow struct {
	row  string
	at   int
	most int
	laid []byte
}

// slowInflate is P5.1 word by word; beside an error stands what was laid ahead of it.
func slowInflate(b []byte, most int) (laid []byte, read int, e api.Errno) {
	if most < 0 || most > 16384 {
		return nil, 0, api.ErrArg
	}
	x := &slow{row: lettersOf(b), most: most}
	defer func() {
		if stop := recover(); stop != nil {
			laid, read, e = x.laid, 0, stop.(api.Errno)
		}
	}()
	for last := false; !last; {
		last = x.number(1) == 1
		x.block(x.number(2))
	}
	return x.laid, (x.at + 7) / 8, api.OK
}

func (x *slow) number(n int) int {
	if len(x.row)-x.at < n {
		panic(api.ErrFlateEnd)
	}
	v := 0
	for i, letter := range x.row[x.at : x.at+n] {
		v += int(letter-'0') << i
	}
	x.at += n
	return v
}

func (x *slow) code(codes map[string]int, none api.Errno) int {
	left := x.row[x.at:]
	for n := 1; n <= min(15, len(left)); n++ {
		if sym, ok := codes[left[:n]]; ok {
			x.at += n
			return sym
		}
	}
	for row := range codes {
		if strings.HasPrefix(row, left) {
			panic(api.ErrFlateEnd)
		}
	}
	panic(none)
}

func (x *slow) lay(b byte) {
	if len(x.laid) == x.most {
		panic(api.ErrFlateMost)
	}
	x.laid = append(x.laid, b)
}

func (x *slow) block(kind int) {
	switch kind {
	case 0:
		for x.at%8 != 0 {
			x.at++
		}
		n := x.number(16)
		if x.number(16) != 65535-n {
			panic(api.ErrFlateStored)
		}
		for range n {
			x.lay(byte(x.number(8)))
		}
	case 1:
		x.symbols(fixedLitTable(), fixedDistTable())
	case 2:
		lit, dist := x.head()
		x.symbols(table(lit), table(dist))
	default:
		panic(api.ErrFlateKind)
	}
}

func (x *slow) head() (lit, dist []int) {
	lits, dists, come := x.number(5)+257, x.number(5)+1, x.number(4)+4
	if lits > 286 || dists > 30 {
		panic(api.ErrFlateCodes)
	}
	steps := same(19, 0)
	for _, step := range stepOrder[:come] {
		steps[step] = x.number(3)
	}
	if huff.Check(steps) != api.OK {
		panic(api.ErrFlateCodes)
	}
	both, codes := []int(nil), table(steps)
	for len(both) < lits+dists {
		both = x.step(both, x.code(codes, api.ErrFlateCodes))
	}
	if len(both) > lits+dists {
		panic(api.ErrFlateCodes)
	}
	lit, dist = both[:lits], both[lits:]
	used := slices.Max(dist) > 0
	if lit[256] == 0 || huff.Check(lit) != api.OK || used && huff.Check(dist) != api.OK {
		panic(api.ErrFlateCodes)
	}
	return lit, dist
}

func (x *slow) step(said []int, step int) []int {
	switch step {
	case 16:
		n := x.number(2) + 3
		if len(said) == 0 {
			panic(api.ErrFlateCodes)
		}
		return join(said, same(n, said[len(said)-1]))
	case 17:
		return join(said, same(x.number(3)+3, 0))
	case 18:
		return join(said, same(x.number(7)+11, 0))
	}
	return join(said, []int{step})
}

func (x *slow) symbols(lits, dists map[string]int) {
	for {
		sym := x.code(lits, api.ErrFlateSym)
		switch {
		case sym < 256:
			x.lay(byte(sym))
		case sym == 256:
			return
		case sym > 285:
			panic(api.ErrFlateSym)
		default:
			length := lengthLeast[sym-257] + x.number(lengthBits[sym-257])
			if len(dists) == 0 {
				panic(api.ErrFlateSym)
			}
			far := x.code(dists, api.ErrFlateSym)
			if far > 29 {
				panic(api.ErrFlateSym)
			}
			dist := distLeast[far] + x.number(distBits[far])
			if dist > len(x.laid) {
				panic(api.ErrFlateFar)
			}
			for range length {
				x.lay(x.laid[len(x.laid)-dist])
			}
		}
	}
}

// slowStream is P5.2 and P5.3 word by word.
type slowStream struct {
	most int
	fed  []byte
	told int
}

func (s *slowStream) feed(b []byte) ([]byte, api.Errno) {
	s.fed = join(s.fed, b)
	laid, _, e := slowInflate(s.fed, s.most)
	if e != api.OK && e != api.ErrFlateEnd {
		return nil, e
	}
	out := laid[s.told:]
	s.told = len(laid)
	return out, api.OK
}

func (s *slowStream) state() (done bool, rest []byte, e api.Errno) {
	_, read, e := slowInflate(s.fed, s.most)
	if e != api.OK {
		return false, nil, e
	}
	return true, s.fed[read:], api.OK
}

// book is the codes by which a block's symbols are laid.
type book struct{ lit, dist []string }

func bookOf(lit, dist []int) book { return book{rowsOf(lit), rowsOf(dist)} }

func fixedBook() book { return bookOf(fixedLits(), fixedDists()) }

func (k book) end() string { return k.lit[256] }

func (k book) text(b string) string {
	var out strings.Builder
	for i := range len(b) {
		out.WriteString(k.lit[b[i]])
	}
	return out.String()
}

// again is a copy, told by its symbols and by the numbers behind them.
func (k book) again(sym, extra, far, farExtra int) string {
	return k.length(sym, extra) + k.dist[far] + num(farExtra, bitsOf(distBits, far))
}

func (k book) length(sym, extra int) string {
	return k.lit[sym] + num(extra, bitsOf(lengthBits, sym-257))
}

// bitsOf: how many bits stand behind a symbol; none, behind one that may not be.
func bitsOf(all []int, i int) int {
	if i >= len(all) {
		return 0
	}
	return all[i]
}

// copied is a copy of so many bytes from so many back, by the last symbols that say them.
func (k book) copied(length, dist int) string {
	i, j := lastFrom(lengthLeast, length), lastFrom(distLeast, dist)
	return k.again(257+i, length-lengthLeast[i], j, dist-distLeast[j])
}

func lastFrom(least []int, n int) int {
	out := 0
	for i, from := range least {
		if from <= n {
			out = i
		}
	}
	return out
}

// start is a block's first three bits.
func start(last bool, kind int) string {
	if last {
		return "1" + num(kind, 2)
	}
	return "0" + num(kind, 2)
}

// fixed is a block by the fixed codes.
func fixed(last bool, body string) string { return start(last, 1) + body + fixedBook().end() }

// stored lays a block as it is behind a row; the bits that are left out are ones.
func stored(row string, last bool, data string) string {
	row += start(last, 0)
	row += strings.Repeat("1", (8-len(row)%8)%8)
	return row + num(len(data), 16) + num(^len(data), 16) + lettersOf([]byte(data))
}

// each is a list of steps' codes that passes and has a code for each step.
func each() []int { return join(same(13, 4), same(6, 5)) }

// headOf is a head, right or wrong: so many literals and distances, the steps' codes' lengths, and steps, of which
// those from 16 on have the number that is extra behind them.
func headOf(lits, dists int, codes []int, steps ...int) string {
	out := num(lits-257, 5) + num(dists-1, 5) + num(15, 4)
	for _, step := range stepOrder {
		out += num(codes[step], 3)
	}
	rows := rowsOf(codes)
	for i := 0; i < len(steps); i++ {
		out += rows[steps[i]]
		if steps[i] >= 16 {
			i++
			out += num(steps[i], map[int]int{16: 2, 17: 3, 18: 7}[steps[i-1]])
		}
	}
	return out
}

// said is a head that says each length by a step of its own.
func said(lit, dist []int) string { return headOf(len(lit), len(dist), each(), join(lit, dist)...) }

// brought is a block that brings its codes.
func brought(last bool, lit, dist []int, body func(book) string) string {
	k := bookOf(lit, dist)
	return start(last, 2) + said(lit, dist) + body(k) + k.end()
}

// lengthsOf is a list of n lengths, told by pairs of a symbol and its length.
func lengthsOf(n int, pairs ...int) []int {
	out := same(n, 0)
	for pair := range slices.Chunk(pairs, 2) {
		out[pair[0]] = pair[1]
	}
	return out
}

// wide is a list of n lengths that passes and has a code for each symbol, of two lengths.
func wide(n int) []int {
	long := 0
	for 1<<long < n {
		long++
	}
	short := 1<<long - n
	return join(same(short, long-1), same(n-short, long))
}

// told holds Inflate against the words, and answers its error.
func told(t *testing.T, b []byte, most int) api.Errno {
	t.Helper()
	want, read, wantErr := slowInflate(b, most)
	if wantErr != api.OK {
		want = nil
	}
	out, n, e := inflate.Inflate(b, most)
	if !bytes.Equal(out, want) || n != read || e != wantErr {
		t.Errorf("Inflate(%x, %d) = %q, %d, %d, want %q, %d, %d", b, most, out, n, e, want, read, wantErr)
	}
	return e
}

// tells: Inflate of this answers this, as the words ask.
func tells(t *testing.T, b []byte, most int, want string) {
	t.Helper()
	told(t, b, most)
	if out, n, e := inflate.Inflate(b, most); string(out) != want || n != len(b) || e != api.OK {
		t.Errorf("Inflate(%x, %d) = %q, %d, %d, want %q", b, most, out, n, e, want)
	}
}

func refuses(t *testing.T, b []byte, most int, want api.Errno) {
	t.Helper()
	told(t, b, most)
	if out, n, e := inflate.Inflate(b, most); out != nil || n != 0 || e != want {
		t.Errorf("Inflate(%x, %d) = %q, %d, %d, want %d", b, most, out, n, e, want)
	}
}

// refusesRow: whatever fills the last byte and stands behind it, this is the first error.
func refusesRow(t *testing.T, row string, most int, want api.Errno) {
	t.Helper()
	for _, one := range []string{"0", "1"} {
		for _, behind := range []string{"", "\x00", "\xff\xff", "\x01\x02\x03"} {
			refuses(t, join(filled(row, one), []byte(behind)), most, want)
		}
	}
}

func opened(t *testing.T, most int) *inflate.Stream {
	t.Helper()
	s, e := inflate.New(most)
	if s == nil || e != api.OK {
		t.Fatalf("New(%d) = %v, %d", most, s, e)
	}
	return s
}

// stands: what Done, Rest and Close tell, twice, as they change nothing.
func stands(t *testing.T, s *inflate.Stream, done bool, rest []byte, e api.Errno) {
	t.Helper()
	for range 2 {
		if s.Done() != done || !bytes.Equal(s.Rest(), rest) || s.Close() != e {
			t.Errorf("%t, %x, %d, want %t, %x, %d", s.Done(), s.Rest(), s.Close(), done, rest, e)
		}
	}
}

// streams holds a stream against the words, part by part.
func streams(t *testing.T, most int, parts ...[]byte) {
	t.Helper()
	s, want := opened(t, most), &slowStream{most: most}
	stands(t, s, false, nil, api.ErrFlateEnd)
	for i, part := range parts {
		out, e := s.Feed(part)
		wantOut, wantErr := want.feed(part)
		if !bytes.Equal(out, wantOut) || e != wantErr {
			t.Errorf("part %d of %x, %d: %q, %d, want %q, %d", i, parts, most, out, e, wantOut, wantErr)
		}
		done, rest, end := want.state()
		stands(t, s, done, rest, end)
	}
}

// allOf feeds parts and joins what is told, up to an error.
func allOf(s *inflate.Stream, parts [][]byte) ([]byte, api.Errno) {
	var out []byte
	for _, part := range parts {
		more, e := s.Feed(part)
		if e != api.OK {
			return out, e
		}
		out = append(out, more...)
	}
	return out, api.OK
}

func single(b []byte) [][]byte { return slices.Collect(slices.Chunk(b, 1)) }

// mixedCuts are parts, of which some are empty.
func mixedCuts(r *rand.Rand, b []byte) [][]byte {
	var out [][]byte
	for len(b) > 0 {
		n := r.IntN(min(len(b), 1+r.IntN(40)) + 1)
		out = append(out, b[:n])
		b = b[n:]
	}
	return append(out, nil)
}

// maker lays blocks that say known bytes.
type maker struct {
	r   *rand.Rand
	row string
	out []byte
}

// mark is a byte (length 0), or a copy.
type mark struct{ lit, length, dist int }

// marks are some bytes and copies behind those that are there, which are laid.
func (m *maker) marks(n int) []mark {
	var out []mark
	letters := 1 + m.r.IntN(256)
	for range n {
		if len(m.out) == 0 || m.r.IntN(3) > 0 {
			out = append(out, mark{lit: m.r.IntN(letters)})
			m.out = append(m.out, byte(out[len(out)-1].lit))
			continue
		}
		x := mark{length: 3 + m.r.IntN(1+m.r.IntN(256)), dist: 1 + m.r.IntN(1+m.r.IntN(len(m.out)))}
		for range x.length {
			m.out = append(m.out, m.out[len(m.out)-x.dist])
		}
		out = append(out, x)
	}
	return out
}

func (k book) marked(all []mark) string {
	var out strings.Builder
	for _, x := range all {
		if x.length == 0 {
			out.WriteString(k.lit[x.lit])
		} else {
			out.WriteString(k.copied(x.length, x.dist))
		}
	}
	return out.String()
}

// listsFor are lengths by which these marks can be said, and perhaps some more.
func (m *maker) listsFor(all []mark) (lit, dist []int) {
	lits, dists := same(257+m.r.IntN(30), 0), same(1+m.r.IntN(30), 0)
	note := func(counts *[]int, sym int) {
		for len(*counts) <= sym {
			*counts = append(*counts, 0)
		}
		(*counts)[sym] += 1 + m.r.IntN(9)
	}
	note(&lits, 256)
	for _, x := range all {
		if x.length == 0 {
			note(&lits, x.lit)
		} else {
			note(&lits, 257+lastFrom(lengthLeast, x.length))
			note(&dists, lastFrom(distLeast, x.dist))
		}
	}
	lit, _ = huff.Limit(lits, 9+m.r.IntN(7))
	dist, _ = huff.Limit(dists, 5+m.r.IntN(11))
	return lit, dist
}

func (m *maker) block(last bool) {
	switch m.r.IntN(3) {
	case 0:
		data := mixedBytes(m.r, m.r.IntN(1+m.r.IntN(30)))
		m.row = stored(m.row, last, string(data))
		m.out = append(m.out, data...)
	case 1:
		m.row += fixed(last, fixedBook().marked(m.marks(m.r.IntN(1+m.r.IntN(20)))))
	case 2:
		all := m.marks(m.r.IntN(1 + m.r.IntN(20)))
		lit, dist := m.listsFor(all)
		m.row += brought(last, lit, dist, func(k book) string { return k.marked(all) })
	}
}

// mixedBlocks are some blocks of all kinds, and what they say.
func mixedBlocks(r *rand.Rand) (row string, out []byte) {
	m := &maker{r: r}
	for more := r.IntN(4); more >= 0; more-- {
		m.block(more == 0)
	}
	return m.row, m.out
}

// twoLits is a list by which the bytes a and b, a length of 3 and the end are said by two bits each.
func twoLits() []int { return lengthsOf(258, 'a', 2, 'b', 2, 256, 2, 257, 2) }

// packedHead is a head whose steps say many lengths at once.
func packedHead(lit, dist []int) string {
	all, _ := lens.Pack(join(lit, dist))
	var steps []int
	for _, step := range all {
		steps = append(steps, step.Sym)
		if step.Sym >= 16 {
			steps = append(steps, step.Extra)
		}
	}
	return headOf(len(lit), len(dist), each(), steps...)
}

// sample is deflated bytes, and what they say.
type sample struct{ row, out string }

// samples have blocks of each kind, alone and one behind the other.
func samples() []sample {
	k, two := fixedBook(), bookOf(twoLits(), []int{0, 1})
	own := two.text("ab") + two.again(257, 0, 1, 0) + two.text("b") + two.end()
	several := fixed(false, k.text("ab")) + start(false, 2) + packedHead(twoLits(), []int{0, 1}) + own
	several = stored(several, false, "xyz")
	several = stored(several, false, "") + fixed(false, k.copied(5, 11)) + start(false, 2) + said(twoLits(), []int{0, 1}) + own
	return []sample{
		{stored("", true, ""), ""},
		{stored("", true, "abc"), "abc"},
		{fixed(true, ""), ""},
		{fixed(true, k.text("ab\xff")+k.copied(7, 2)+k.text("x")), "ab\xffb\xffb\xffb\xffbx"},
		{fixed(true, k.text("a")+k.copied(258, 1)), strings.Repeat("a", 259)},
		{start(true, 2) + said(lengthsOf(257, 256, 1), []int{0}) + "0", ""},
		{start(true, 2) + said(twoLits(), []int{0, 1}) + own, "ababab"},
		{start(true, 2) + packedHead(twoLits(), []int{0, 1}) + own, "ababab"},
		{stored(several, true, "end"), "abababab" + "xyz" + "ababa" + "ababab" + "end"},
	}
}

func TestP5_1InflateOfExamples(t *testing.T) {
	b := unhex("01 03 00 fc ff 61 62 63")
	tells(t, b, 9, "abc")
	tells(t, b, 3, "abc")
	refuses(t, b, 2, api.ErrFlateMost)
	refuses(t, b[:7], 9, api.ErrFlateEnd)
	tells(t, unhex("4b 4c 4a 06 00"), 9, "abc")
	tells(t, unhex("4b 84 00 00"), 99, "aaaaaaa")
	refuses(t, unhex("07"), 9, api.ErrFlateKind)
	refuses(t, unhex("01 01 00 00 00"), 9, api.ErrFlateStored)
	refuses(t, nil, 9, api.ErrFlateEnd)
	refuses(t, unhex("03 02 00"), 9, api.ErrFlateFar)
	if out, n, e := inflate.Inflate(unhex("4b 4c 4a 06 00 ff"), 9); string(out) != "abc" || n != 5 || e != api.OK {
		t.Errorf("with a byte behind it: %q, %d, %d", out, n, e)
	}
}

func TestP5_1InflateOfSamples(t *testing.T) {
	for _, x := range samples() {
		tells(t, bytesOf(x.row), 16384, x.out)
		tells(t, bytesOf(x.row), len(x.out), x.out)
		tells(t, filled(x.row, "1"), 16384, x.out) // what is left of the last byte does not matter
	}
}

func TestP5_1MostThatMayNotBe(t *testing.T) {
	for _, most := range []int{-1, 16385, -16384, 1 << 40, math.MaxInt, math.MinInt} {
		for _, x := range samples() {
			refuses(t, bytesOf(x.row), most, api.ErrArg)
		}
		refuses(t, nil, most, api.ErrArg) // ahead of all other errors
		refuses(t, unhex("07"), most, api.ErrArg)
		refuses(t, unhex("01 01 00 00 00"), most, api.ErrArg)
	}
}

func TestP5_1MostOfNought(t *testing.T) {
	for _, x := range samples() {
		want := api.OK
		if x.out != "" {
			want = api.ErrFlateMost
		}
		if e := told(t, bytesOf(x.row), 0); e != want {
			t.Errorf("%q with most 0: %d, want %d", x.out, e, want)
		}
	}
	refuses(t, nil, 0, api.ErrFlateEnd)
	refuses(t, unhex("07"), 0, api.ErrFlateKind)
}

// blocksOf are blocks of each kind that say so many bytes, the last one by a copy or not.
func blocksOf(n int) []string {
	text := strings.Repeat("a", n)
	k := fixedBook()
	out := []string{stored("", true, text), fixed(true, k.text(text))}
	lit, dist := lengthsOf(286, 'a', 1, 256, 2, 285, 3, 257, 3), []int{1}
	out = append(out, brought(true, lit, dist, func(k book) string { return k.text(text) }))
	if n >= 259 {
		out = append(out, fixed(true, k.text(text[:n-258])+k.copied(258, 1)))
		out = append(out, brought(true, lit, dist, func(k book) string { return k.text(text[:n-258]) + k.copied(258, 1) }))
	}
	return out
}

func TestP5_1JustMostBytesAndOneMore(t *testing.T) {
	for _, n := range []int{1, 2, 300, 16384} {
		for _, row := range blocksOf(n) {
			tells(t, bytesOf(row), n, strings.Repeat("a", n))
			refuses(t, bytesOf(row), n-1, api.ErrFlateMost)
			refuses(t, bytesOf(row), n/2, api.ErrFlateMost)
		}
	}
	for _, row := range blocksOf(16385) {
		refuses(t, bytesOf(row), 16384, api.ErrFlateMost)
	}
}

func TestP5_1MostWithinACopy(t *testing.T) {
	k := fixedBook()
	for _, length := range []int{3, 4, 10, 258} {
		row := fixed(true, k.text("xyz")+k.copied(length, 2))
		for most := range length + 6 {
			want := api.ErrFlateMost
			if most >= 3+length {
				want = api.OK
			}
			if e := told(t, bytesOf(row), most); e != want {
				t.Errorf("3 bytes and a copy of %d with most %d: %d", length, most, e)
			}
		}
	}
}

func TestP5_1MostIsToldAsSoonAsOneMoreWouldBeLaid(t *testing.T) {
	k := fixedBook()
	// Of what stands behind, the first error would be another one.
	refusesRow(t, start(true, 1)+k.text("abc"), 2, api.ErrFlateMost)
	refusesRow(t, start(true, 1)+k.text("abc")+k.again(257, 0, 29, 0), 2, api.ErrFlateMost)
	refusesRow(t, start(true, 1)+k.text("a")+k.copied(9, 1)+k.lit[286], 9, api.ErrFlateMost)
	refusesRow(t, fixed(false, k.text("abc"))+start(true, 3), 2, api.ErrFlateMost)
	// And where a byte is still to be read, its bits come first.
	refuses(t, bytesOf(stored("", true, "abcd")[:8*7]), 2, api.ErrFlateEnd)
	refuses(t, bytesOf(stored("", true, "abcd")[:8*8]), 2, api.ErrFlateMost)
	refusesRow(t, fixed(false, k.text("ab"))+start(true, 3), 2, api.ErrFlateKind)
	refusesRow(t, start(true, 1)+k.text("ab")+k.lit[287], 2, api.ErrFlateSym)
	refusesRow(t, start(true, 1)+k.text("ab")+k.copied(3, 3), 2, api.ErrFlateFar)
}

func TestP5_1EndAtEachPlace(t *testing.T) {
	for _, x := range samples() {
		b := bytesOf(x.row)
		for n := range b {
			refuses(t, b[:n], 16384, api.ErrFlateEnd)
			refuses(t, b[:n:n], len(x.out), api.ErrFlateEnd)
		}
	}
}

// endingAByte lays whole blocks ahead of a row till it ends where a byte ends.
func endingAByte(row string) []byte {
	for len(row)%8 != 0 {
		row = fixed(false, fixedBook().text("\xff")) + row // 19 bits
	}
	return bytesOf(row)
}

func TestP5_1EndWithinEachNumberAndCode(t *testing.T) {
	k := fixedBook()
	lit := lengthsOf(286, 'a', 1, 256, 2, 284, 2)
	own := bookOf(lit, wide(30))
	for _, row := range []string{
		fixed(true, k.text("a")+k.again(284, 31, 0, 0)+k.again(280, 15, 13, 31)+k.text("\xff")),
		start(true, 2) + packedHead(lit, wide(30)) + own.text("a") + own.again(284, 31, 0, 0) + own.again(284, 0, 12, 31) + own.end(),
	} {
		for n := range row {
			refuses(t, endingAByte(row[:n]), 16384, api.ErrFlateEnd)
		}
		if e := told(t, endingAByte(row), 16384); e != api.OK {
			t.Errorf("the whole: %d", e)
		}
	}
}

func TestP5_1StoredBlocks(t *testing.T) {
	for _, n := range []int{0, 1, 2, 255, 256, 257, 4096, 16384} {
		data := string(mixedBytes(mixed(uint64(n)), n))
		tells(t, bytesOf(stored("", true, data)), 16384, data)
		// Behind each number of bits: left out up to the next byte, none if it stands at one.
		for blocks := range 9 {
			ahead := strings.Repeat(fixed(false, ""), blocks)
			tells(t, bytesOf(stored(ahead, true, data)), 16384, data)
			tells(t, bytesOf(stored(stored(ahead, false, ""), true, data)), 16384, data)
		}
	}
}

func TestP5_1StoredBlockWhoseFirstBitsEndAByte(t *testing.T) {
	for n := range 24 {
		text := strings.Repeat("\xff", n) // 9 bits each, so that each place within a byte comes
		row := fixed(false, fixedBook().text(text))
		whole := stored(row, true, "stored")
		tells(t, bytesOf(whole), 99, text+"stored")
		if out := len(whole) - len(row) - 3 - 32 - 48; (len(row)+3)%8 == 0 && out != 0 {
			t.Errorf("%d bits are left out", out)
		}
	}
}

func TestP5_1StoredBlockOf65535(t *testing.T) {
	b := bytesOf(stored("", true, strings.Repeat("a", 65535)))
	for _, most := range []int{0, 1, 10, 16384} {
		refuses(t, b, most, api.ErrFlateMost)
		refuses(t, b[:5+most+1], most, api.ErrFlateMost)
		refuses(t, b[:5+most], most, api.ErrFlateEnd)
		refuses(t, b[:5], most, api.ErrFlateEnd)
	}
}

func TestP5_1StoredBlockWhoseCountsDoNotFit(t *testing.T) {
	for _, n := range []int{0, 1, 3, 255, 256, 65535} {
		right := start(true, 0) + "00000" + num(n, 16) + num(^n, 16)
		for bit := range 32 {
			row := []byte(right)
			row[8+bit] ^= '0' ^ '1'
			refusesRow(t, string(row), 9, api.ErrFlateStored)
			refuses(t, bytesOf(string(row[:32])), 9, api.ErrFlateEnd) // both are read ahead of this
		}
		refusesRow(t, right[:24]+num(n, 16), 9, api.ErrFlateStored)
		refusesRow(t, right[:24]+num(-n, 16)+"1", 9, api.ErrFlateStored)
	}
}

func TestP5_1BlocksOneBehindTheOther(t *testing.T) {
	r := mixed(1)
	for range 300 {
		row, out := mixedBlocks(r)
		tells(t, bytesOf(row), 16384, string(out))
	}
}

func TestP5_1BytesBehindTheLastBlock(t *testing.T) {
	for _, x := range samples() {
		b := bytesOf(x.row)
		for _, behind := range []string{"\x00", "\xff", "\x07", x.out, string(b), strings.Repeat("\xff", 5000)} {
			for _, one := range []string{"0", "1"} {
				out, n, e := inflate.Inflate(join(filled(x.row, one), []byte(behind)), len(x.out))
				if string(out) != x.out || n != len(b) || e != api.OK {
					t.Errorf("%x and %x behind it: %q, %d, %d", b, behind, out, n, e)
				}
			}
		}
	}
}

func TestP5_1KindThree(t *testing.T) {
	for _, last := range []bool{false, true} {
		refusesRow(t, start(last, 3), 9, api.ErrFlateKind)
		refusesRow(t, fixed(false, "")+start(last, 3), 9, api.ErrFlateKind)
		refusesRow(t, stored("", false, "ab")+start(last, 3), 9, api.ErrFlateKind)
	}
}

// again is what a copy lays behind a text.
func again(text string, length, dist int) string {
	out := []byte(text)
	for range length {
		out = append(out, out[len(out)-dist])
	}
	return string(out)
}

func TestP5_1EachLength(t *testing.T) {
	k := fixedBook()
	all := bookOf(wide(286), []int{1, 1})
	for i, least := range lengthLeast {
		for _, extra := range []int{0, 1, 1<<lengthBits[i] - 1} {
			if extra >= 1<<lengthBits[i] {
				continue
			}
			want := again("pq", least+extra, 2)
			tells(t, bytesOf(fixed(true, k.text("pq")+k.again(257+i, extra, 1, 0))), 300, want)
			body := all.text("pq") + all.again(257+i, extra, 1, 0) + all.end()
			tells(t, bytesOf(start(true, 2)+said(wide(286), []int{1, 1})+body), 300, want)
		}
	}
}

func TestP5_1LengthsThatAreNone(t *testing.T) {
	k := fixedBook()
	for _, sym := range []int{286, 287} {
		refusesRow(t, start(true, 1)+k.lit[sym], 9, api.ErrFlateSym)
		refusesRow(t, start(true, 1)+k.text("abc")+k.lit[sym], 9, api.ErrFlateSym)
		refusesRow(t, start(true, 1)+k.text("abc")+k.lit[sym]+k.dist[0]+k.end(), 9, api.ErrFlateSym)
	}
}

func TestP5_1EachDistance(t *testing.T) {
	k := fixedBook()
	all := bookOf(twoLits(), wide(30))
	for i, least := range distLeast {
		for _, extra := range []int{0, 1, 1<<distBits[i] - 1} {
			dist := least + extra
			if extra >= 1<<distBits[i] || dist > 16381 {
				continue
			}
			data := string(mixedBytes(mixed(uint64(i)), dist))
			row, want := stored("", false, data), again(data, 3, dist)
			tells(t, bytesOf(row+fixed(true, k.again(257, 0, i, extra))), 16384, want)
			body := all.again(257, 0, i, extra) + all.end()
			tells(t, bytesOf(row+start(true, 2)+said(twoLits(), wide(30))+body), 16384, want)
			// One byte fewer is too few.
			row = stored("", false, data[1:])
			refusesRow(t, row+start(true, 1)+k.again(257, 0, i, extra), 16384, api.ErrFlateFar)
			refusesRow(t, row+start(true, 2)+said(twoLits(), wide(30))+all.again(257, 0, i, extra), 16384, api.ErrFlateFar)
		}
	}
}

func TestP5_1DistancesBeyondAllThatMayBeLaid(t *testing.T) {
	row := stored("", false, string(mixedBytes(mixed(2), 16384)))
	k := fixedBook()
	refusesRow(t, row+start(true, 1)+k.copied(3, 16384), 16384, api.ErrFlateMost)
	refusesRow(t, row+start(true, 1)+k.copied(3, 16385), 16384, api.ErrFlateFar)
	for _, far := range []int{28, 29} {
		for _, extra := range []int{0, 1, 8191} {
			refusesRow(t, row+start(true, 1)+k.again(257, 0, far, extra), 16384, api.ErrFlateFar)
			refusesRow(t, start(true, 1)+k.text("abc")+k.again(285, 0, far, extra), 16384, api.ErrFlateFar)
		}
	}
}

func TestP5_1DistancesThatAreNone(t *testing.T) {
	k := fixedBook()
	for _, far := range []int{30, 31} {
		refusesRow(t, start(true, 1)+k.length(257, 0)+k.dist[far], 9, api.ErrFlateSym)
		refusesRow(t, start(true, 1)+k.text("abc")+k.length(284, 31)+k.dist[far], 9, api.ErrFlateSym)
	}
}

func TestP5_1DistanceJustAsFarAsWhatWasLaidAndOneFarther(t *testing.T) {
	k := fixedBook()
	text := string(mixedBytes(mixed(3), 600))
	for n := 1; n <= len(text); n++ {
		tells(t, bytesOf(fixed(true, k.text(text[:n])+k.copied(5, n))), 16384, again(text[:n], 5, n))
		refusesRow(t, start(true, 1)+k.text(text[:n])+k.copied(5, n+1), 16384, api.ErrFlateFar)
	}
	refusesRow(t, start(true, 1)+k.copied(3, 1), 9, api.ErrFlateFar)
	// What other blocks laid counts, and no more.
	tells(t, bytesOf(stored("", false, "ab")+fixed(true, k.copied(3, 2))), 9, "ababa")
	tells(t, bytesOf(fixed(false, k.text("ab"))+fixed(true, k.copied(3, 2))), 9, "ababa")
	refusesRow(t, fixed(false, k.text("ab"))+start(true, 1)+k.copied(3, 3), 9, api.ErrFlateFar)
}

func TestP5_1CopiesThatReachIntoThemselves(t *testing.T) {
	k := fixedBook()
	text := "0123456789"
	for dist := 1; dist <= len(text); dist++ {
		for length := 3; length <= 258; length++ {
			want := again(text, length, dist)
			tells(t, bytesOf(fixed(true, k.text(text)+k.copied(length, dist))), len(want), want)
		}
	}
	tells(t, bytesOf(fixed(true, k.text("ab")+k.copied(5, 2)+k.copied(9, 4)+k.copied(3, 1))), 99,
		again(again(again("ab", 5, 2), 9, 4), 3, 1))
}

// steps is a list of steps' codes, told by pairs of a step and its length.
func steps(pairs ...int) []int { return lengthsOf(19, pairs...) }

func TestP5_1HeadsWithTooManyLiteralsOrDistances(t *testing.T) {
	for lits := 285; lits <= 288; lits++ {
		for dists := 29; dists <= 32; dists++ {
			head := start(true, 2) + headOf(lits, dists, each(), join(wide(lits), same(dists, 5))...)
			if lits > 286 || dists > 30 {
				refusesRow(t, head, 9, api.ErrFlateCodes)
				refusesRow(t, head[:17], 9, api.ErrFlateCodes) // looked at when all three numbers are read
				refuses(t, bytesOf(head[:16]), 9, api.ErrFlateEnd)
			}
		}
	}
	k := bookOf(wide(286), wide(30))
	tells(t, bytesOf(start(true, 2)+said(wide(286), wide(30))+k.text("ok")+k.end()), 9, "ok")
	few := bookOf(wide(257), []int{1})
	tells(t, bytesOf(start(true, 2)+said(wide(257), []int{1})+few.text("ok")+few.end()), 9, "ok")
}

func TestP5_1HeadsWhoseStepsCodesDoNotPass(t *testing.T) {
	for _, codes := range [][]int{steps(), steps(0, 2), steps(18, 7), steps(0, 1, 1, 2), steps(0, 1, 1, 1, 2, 1), same(19, 4), same(19, 5)} {
		refusesRow(t, start(true, 2)+headOf(257, 1, codes), 9, api.ErrFlateCodes)
		refuses(t, bytesOf((start(true, 2) + headOf(257, 1, codes))[:72]), 9, api.ErrFlateEnd)
	}
}

func TestP5_1HeadsWhoseStepsMayNotStand(t *testing.T) {
	head := start(true, 2) + headOf(257, 1, steps(0, 1, 16, 1)) // 0 has the code 0, 16 has 1
	for extra := range 4 {
		refusesRow(t, head+"1"+num(extra, 2), 9, api.ErrFlateCodes)
	}
	one := start(true, 2) + headOf(257, 1, steps(18, 1)) // 18 has the code 0, and there is no other
	refusesRow(t, one+"1", 9, api.ErrFlateCodes)
	refusesRow(t, one+"0"+num(127, 7)+"1", 9, api.ErrFlateCodes)
	refusesRow(t, one+"0"+num(127, 7)+"0"+num(110, 7), 9, api.ErrFlateCodes) // 259 lengths
	refusesRow(t, one+"0"+num(127, 7)+"0"+num(127, 7), 9, api.ErrFlateCodes)
	refusesRow(t, one+"0"+num(127, 7)+"0"+num(109, 7), 9, api.ErrFlateCodes) // 258, and 256 is not among them
	refusesRow(t, start(true, 2)+headOf(257, 1, each(), join(wide(257), []int{17, 0})...), 9, api.ErrFlateCodes)
	refusesRow(t, start(true, 2)+headOf(257, 1, each(), join(wide(257), []int{16, 0})...), 9, api.ErrFlateCodes)
}

func TestP5_1ANumberBehindAStepIsReadAheadOfItsFault(t *testing.T) {
	for _, full := range []string{
		start(true, 2) + headOf(257, 1, steps(0, 1, 16, 1)) + "1" + num(3, 2),
		start(true, 2) + headOf(257, 1, steps(18, 1)) + "0" + num(127, 7) + "0" + num(110, 7),
		start(true, 2) + headOf(257, 1, each(), join(wide(257), []int{17, 7})...),
	} {
		refuses(t, endingAByte(full), 9, api.ErrFlateCodes)
		refuses(t, endingAByte(full[:len(full)-1]), 9, api.ErrFlateEnd)
		refuses(t, endingAByte(full[:len(full)-2]), 9, api.ErrFlateEnd)
	}
}

func TestP5_1HeadsWithoutLiteral256(t *testing.T) {
	for _, lit := range [][]int{
		lengthsOf(257, 'a', 1), lengthsOf(257, 'a', 1, 'b', 1), lengthsOf(258, 'a', 1, 257, 1), same(257, 0),
		join(same(256, 8), []int{0}), join(same(256, 8), same(30, 0)),
	} {
		refusesRow(t, start(true, 2)+said(lit, []int{1, 1}), 9, api.ErrFlateCodes)
		refusesRow(t, start(true, 2)+said(lit, []int{0}), 9, api.ErrFlateCodes)
	}
}

func TestP5_1LiteralsThatPassAndThatDoNot(t *testing.T) {
	for _, lit := range [][]int{
		lengthsOf(257, 256, 2), lengthsOf(257, 256, 15), lengthsOf(257, 'a', 2, 256, 2), lengthsOf(257, 'a', 1, 256, 2),
		lengthsOf(257, 'a', 1, 'b', 1, 256, 1), join(same(256, 8), []int{8}), same(257, 15), same(286, 1), same(286, 9),
	} {
		refusesRow(t, start(true, 2)+said(lit, []int{1, 1}), 9, api.ErrFlateCodes)
		refusesRow(t, start(true, 2)+said(lit, []int{0}), 9, api.ErrFlateCodes)
	}
	for _, lit := range [][]int{lengthsOf(257, 256, 1), lengthsOf(286, 256, 1), lengthsOf(257, 'a', 1, 256, 1), wide(257), wide(270)} {
		tells(t, bytesOf(start(true, 2)+said(lit, []int{1, 1})+rowsOf(lit)[256]), 9, "")
	}
}

func TestP5_1DistancesThatPassAndThatDoNot(t *testing.T) {
	for _, dist := range [][]int{{2}, {15}, {0, 2}, {1, 2}, {2, 2, 2}, {1, 1, 1}, {1, 1, 15}, same(30, 5), same(30, 4), same(30, 15)} {
		refusesRow(t, start(true, 2)+said(twoLits(), dist), 9, api.ErrFlateCodes)
	}
	for _, dist := range [][]int{{0}, same(30, 0), {1}, {0, 1}, {1, 1}, {2, 2, 2, 2}, wide(30), lengthsOf(30, 29, 1)} {
		k := bookOf(twoLits(), dist)
		tells(t, bytesOf(start(true, 2)+said(twoLits(), dist)+k.text("ab")+k.end()), 9, "ab")
	}
}

func TestP5_1BlocksWithoutDistances(t *testing.T) {
	for _, dist := range [][]int{{0}, same(30, 0)} {
		k := bookOf(twoLits(), dist)
		row := start(true, 2) + said(twoLits(), dist)
		tells(t, bytesOf(row+k.text("abba")+k.end()), 9, "abba")
		refusesRow(t, row+k.text("ab")+k.length(257, 0), 9, api.ErrFlateSym)
		refusesRow(t, row+k.length(257, 0), 9, api.ErrFlateSym)
	}
	// The number behind a length comes first.
	lit := lengthsOf(286, 'a', 2, 'b', 2, 256, 2, 284, 2)
	row := start(true, 2) + said(lit, []int{0}) + bookOf(lit, []int{0}).length(284, 31)
	refuses(t, endingAByte(row), 9, api.ErrFlateSym)
	for cut := 1; cut <= 5; cut++ {
		refuses(t, endingAByte(row[:len(row)-cut]), 9, api.ErrFlateEnd)
	}
}

func TestP5_1CodesThatAreNone(t *testing.T) {
	row := start(true, 2) + said(lengthsOf(257, 256, 1), []int{0})
	tells(t, bytesOf(row+"0"), 9, "")
	refusesRow(t, row+"1", 9, api.ErrFlateSym)
	row = start(true, 2) + said(twoLits(), []int{0, 1})
	k := bookOf(twoLits(), []int{0, 1})
	tells(t, bytesOf(row+k.text("ab")+k.length(257, 0)+"0"+k.end()), 9, "ababa")
	refusesRow(t, row+k.text("ab")+k.length(257, 0)+"1", 9, api.ErrFlateSym)
}

func TestP5_1TheFirstOfSeveralFaultsIsTold(t *testing.T) {
	k := fixedBook()
	two := bookOf(twoLits(), []int{0, 1})
	faults := []struct {
		row string
		e   api.Errno
	}{
		{start(true, 3), api.ErrFlateKind},
		{start(true, 1) + k.lit[286], api.ErrFlateSym},
		{start(true, 1) + k.length(257, 0) + k.dist[31], api.ErrFlateSym},
		{start(true, 1) + k.copied(9, 9), api.ErrFlateFar},
		{start(true, 2) + headOf(288, 32, each()), api.ErrFlateCodes},
		{start(true, 2) + headOf(257, 1, steps(0, 2)), api.ErrFlateCodes},
		{start(true, 2) + said(twoLits(), []int{0, 1}) + two.length(257, 0) + "1", api.ErrFlateSym},
		{start(true, 2) + said(twoLits(), []int{0, 1}) + two.length(257, 0) + "0", api.ErrFlateFar},
		{start(true, 1) + k.text("aaaa"), api.ErrFlateMost},
	}
	for _, first := range faults {
		for _, second := range faults {
			refusesRow(t, first.row+second.row, 3, first.e)
			refusesRow(t, stored("", false, "")+first.row+second.row, 3, first.e)
			refusesRow(t, fixed(false, "")+first.row+stored("", false, "abcdef"), 3, first.e)
		}
	}
}

// turned has some of a row's bits turned.
func turned(r *rand.Rand, row string, n int) string {
	out := []byte(row)
	for range n {
		out[r.IntN(len(out))] ^= '0' ^ '1'
	}
	return string(out)
}

func TestP5_1InflateOfSpoiltBlocks(t *testing.T) {
	r := mixed(4)
	seen := map[api.Errno]int{}
	for range 250 {
		row, out := mixedBlocks(r)
		for range 20 {
			b := bytesOf(turned(r, row, 1+r.IntN(3)))
			seen[told(t, b, 16384)]++
			seen[told(t, b[:r.IntN(len(b)+1)], r.IntN(2+len(out)))]++
		}
	}
	for e := api.ErrFlateKind; e <= api.ErrFlateMost; e++ {
		if seen[e] == 0 {
			t.Errorf("no spoilt blocks are answered by %d", e)
		}
	}
	if seen[api.OK] == 0 {
		t.Error("no spoilt blocks are inflated")
	}
}

func TestP5_1InflateOfMixedBytes(t *testing.T) {
	r := mixed(5)
	for range 1000 {
		b := mixedBytes(r, r.IntN(200))
		told(t, b, r.IntN(300))
		told(t, join(bytesOf(start(true, 2)+said(wide(286), wide(30))+"0"), b), r.IntN(300))
		told(t, join([]byte{0x03 ^ byte(r.IntN(32)<<3)}, b), r.IntN(300))
	}
}

// packings are texts that are packed well, badly and by codes of one symbol.
func packings(r *rand.Rand) [][]byte {
	out := [][]byte{nil, []byte("a"), bytes.Repeat([]byte("ab"), 8000), mixedBytes(r, 16384)}
	for range 40 {
		m := &maker{r: r}
		m.marks(1 + r.IntN(200))
		out = append(out, m.out[:min(len(m.out), 16384)])
	}
	return out
}

func deflatedElsewhere(t *testing.T, data []byte, level int) []byte {
	t.Helper()
	var out bytes.Buffer
	w, err := flate.NewWriter(&out, level)
	if err != nil {
		t.Fatal(err)
	}
	w.Write(data[:len(data)/3])
	if level%2 == 0 {
		w.Flush()
	}
	w.Write(data[len(data)/3:])
	w.Close()
	return out.Bytes()
}

func TestP5_1InflateOfWhatTheLibraryDeflates(t *testing.T) {
	for _, data := range packings(mixed(6)) {
		for level := flate.HuffmanOnly; level <= flate.BestCompression; level++ {
			b := deflatedElsewhere(t, data, level)
			if out, n, e := inflate.Inflate(b, len(data)); !bytes.Equal(out, data) || n != len(b) || e != api.OK {
				t.Errorf("level %d: %d bytes of %d, %d of %d read, %d", level, len(out), len(data), n, len(b), e)
			}
		}
	}
}

func TestP5_1WhatIsInflatedTheLibraryInflatesSo(t *testing.T) {
	r := mixed(7)
	inflated := 0
	for range 400 {
		row, _ := mixedBlocks(r)
		for _, b := range [][]byte{bytesOf(row), bytesOf(turned(r, row, 1)), bytesOf(turned(r, row, 2))} {
			out, _, e := inflate.Inflate(b, 16384)
			elsewhere, err := io.ReadAll(flate.NewReader(bytes.NewReader(b)))
			if e == api.OK && (err != nil || !bytes.Equal(out, elsewhere)) {
				t.Errorf("%x: %q, elsewhere %q, %v", b, out, elsewhere, err)
			}
			if e == api.OK {
				inflated++
			}
		}
	}
	if inflated < 500 {
		t.Errorf("only %d were inflated", inflated)
	}
}

func TestP5_2StreamOfExamples(t *testing.T) {
	s := opened(t, 9)
	if out, e := s.Feed(unhex("4b 4c")); string(out) != "a" || e != api.OK {
		t.Errorf("the first part: %q, %d", out, e)
	}
	stands(t, s, false, nil, api.ErrFlateEnd)
	if out, e := s.Feed(unhex("4a 06 00 ff")); string(out) != "bc" || e != api.OK {
		t.Errorf("the second part: %q, %d", out, e)
	}
	stands(t, s, true, unhex("ff"), api.OK)
}

func TestP5_2MostThatMayNotBe(t *testing.T) {
	for _, most := range []int{-1, 16385, -16384, 1 << 40, math.MaxInt, math.MinInt} {
		if s, e := inflate.New(most); s != nil || e != api.ErrArg {
			t.Errorf("New(%d) = %v, %d", most, s, e)
		}
	}
	for _, most := range []int{0, 1, 16383, 16384} {
		stands(t, opened(t, most), false, nil, api.ErrFlateEnd)
	}
}

func TestP5_2JustMostBytesAndOneMore(t *testing.T) {
	for _, n := range []int{1, 300, 16384} {
		for _, row := range blocksOf(n) {
			for _, parts := range [][][]byte{{bytesOf(row)}, single(bytesOf(row))} {
				s := opened(t, n)
				if out, e := allOf(s, parts); string(out) != strings.Repeat("a", n) || e != api.OK || !s.Done() {
					t.Errorf("%d bytes of %d, %d, %t", len(out), n, e, s.Done())
				}
				s = opened(t, n-1)
				if out, e := allOf(s, parts); len(out) > n-1 || e != api.ErrFlateMost || s.Close() != api.ErrFlateMost {
					t.Errorf("with most %d: %d bytes, %d, %d", n-1, len(out), e, s.Close())
				}
			}
		}
	}
}

func TestP5_2SamplesInOnePartAndByteByByte(t *testing.T) {
	for _, x := range samples() {
		b := join(bytesOf(x.row), []byte("more"))
		for _, most := range []int{16384, len(x.out), len(x.out) - 1, len(x.out) / 2} {
			if most >= 0 {
				streams(t, most, b)
				streams(t, most, single(b)...)
			}
		}
	}
}

func TestP5_2SamplesCutAtEachPlace(t *testing.T) {
	for _, x := range samples() {
		b := join(filled(x.row, "1"), []byte("more"))
		for n := range len(b) + 1 {
			streams(t, 16384, b[:n], b[n:])
			streams(t, len(x.out), nil, b[:n], nil, []byte{}, b[n:], nil)
		}
	}
}

func TestP5_2PartsOfNoBytes(t *testing.T) {
	streams(t, 9, nil, nil, []byte{}, nil)
	streams(t, 0, nil, []byte{})
	b := unhex("4b 4c 4a 06 00")
	var parts [][]byte
	for _, x := range b {
		parts = append(parts, nil, []byte{x}, []byte{})
	}
	streams(t, 9, parts...)
	streams(t, 9, append(parts, nil, nil, []byte("x"), nil)...)
	streams(t, 1, append(parts, nil, nil, []byte("x"), nil)...)
}

func TestP5_2FeedBehindTheEnd(t *testing.T) {
	for _, x := range samples() {
		s := opened(t, 16384)
		if out, e := s.Feed(bytesOf(x.row)); string(out) != x.out || e != api.OK {
			t.Errorf("%q, %d, want %q", out, e, x.out)
		}
		var rest []byte
		stands(t, s, true, rest, api.OK)
		// What comes behind is not read, right or wrong.
		for _, behind := range []string{"", "\x07", x.out, string(bytesOf(x.row)), "\xff\xff\xff", ""} {
			if out, e := s.Feed([]byte(behind)); len(out) != 0 || e != api.OK {
				t.Errorf("behind the end: %q, %d", out, e)
			}
			rest = append(rest, behind...)
			stands(t, s, true, rest, api.OK)
		}
	}
}

// faulty are blocks with each error that stays, behind 2 bytes that are laid, and what they tell with most 5.
func faulty() map[string]api.Errno {
	k := fixedBook()
	ahead := fixed(false, k.text("ab"))
	return map[string]api.Errno{
		ahead + start(true, 3): api.ErrFlateKind,
		stored(ahead, true, "")[:len(stored(ahead, true, ""))-1] + "0": api.ErrFlateStored,
		ahead + start(true, 2) + headOf(288, 32, each()):               api.ErrFlateCodes,
		ahead + start(true, 2) + said(twoLits(), []int{1, 1, 1}):       api.ErrFlateCodes,
		ahead + start(true, 1) + k.text("c") + k.lit[286]:              api.ErrFlateSym,
		ahead + start(true, 1) + k.text("c") + k.copied(3, 4):          api.ErrFlateFar,
		ahead + start(true, 1) + k.text("c") + k.copied(3, 1):          api.ErrFlateMost,
		ahead + start(true, 1) + k.text("cdef"):                        api.ErrFlateMost,
		stored(ahead, true, "cdef"):                                    api.ErrFlateMost,
	}
}

func TestP5_2FeedBehindAnError(t *testing.T) {
	for row, want := range faulty() {
		b := bytesOf(row)
		for _, parts := range [][][]byte{{b}, single(b), {b[:len(b)/2], b[len(b)/2:]}} {
			s := opened(t, 5)
			out, e := allOf(s, parts)
			if e != want || len(out) > 5 || !strings.HasPrefix("abcde", string(out)) {
				t.Errorf("%x: %q, %d, want %d", b, out, e, want)
			}
			stands(t, s, false, nil, want)
			for _, more := range []string{"", "\x00", "\x01\x00\x00\xff\xff", "\x03\x00", ""} {
				if out, e := s.Feed([]byte(more)); out != nil || e != want {
					t.Errorf("behind %d: %q, %d", want, out, e)
				}
				stands(t, s, false, nil, want)
			}
		}
		streams(t, 5, append(single(b), nil, []byte{0, 1, 2}, nil)...)
		for n := range len(b) + 1 {
			streams(t, 5, b[:n], b[n:], []byte("more"))
		}
	}
}

// A part with an error tells nothing of what it laid ahead of it.
func TestP5_2NothingIsToldBesideAnError(t *testing.T) {
	b := bytesOf(fixed(false, fixedBook().text("abcdef")) + start(true, 3))
	s := opened(t, 9)
	if out, e := s.Feed(b); out != nil || e != api.ErrFlateKind {
		t.Errorf("in one part: %q, %d", out, e)
	}
	s = opened(t, 9)
	if out, e := s.Feed(b[:3]); string(out) != "ab" || e != api.OK {
		t.Errorf("the first part: %q, %d", out, e)
	}
	if out, e := s.Feed(b[3:]); out != nil || e != api.ErrFlateKind {
		t.Errorf("the second part: %q, %d", out, e)
	}
}

// Bytes are told as soon as all bits of their step are there, and not ahead of that.
func TestP5_2BytesAreToldAsSoonAsTheirBitsAreThere(t *testing.T) {
	k := fixedBook()
	type place struct{ bits, laid int }
	row, laid := start(true, 1), 0
	var places []place
	for _, step := range []struct {
		row string
		n   int
	}{
		{k.text("a"), 1}, {k.text("\xff"), 1}, {k.copied(258, 2), 258}, {k.text("z"), 1}, {k.copied(130, 200), 130}, {k.end(), 0},
	} {
		row += step.row
		laid += step.n
		places = append(places, place{len(row), laid})
	}
	b := bytesOf(row)
	for n := range len(b) + 1 {
		want := 0
		for _, x := range places {
			if x.bits <= 8*n {
				want = x.laid
			}
		}
		s := opened(t, 16384)
		if out, e := s.Feed(b[:n]); len(out) != want || e != api.OK {
			t.Errorf("%d bytes tell %d, %d, want %d", n, len(out), e, want)
		}
	}
	s := opened(t, 9)
	for i, x := range bytesOf(stored("", true, "stored")) {
		want := ""
		if i >= 5 {
			want = "stored"[i-5 : i-4]
		}
		if out, e := s.Feed([]byte{x}); string(out) != want || e != api.OK {
			t.Errorf("byte %d tells %q, %d, want %q", i, out, e, want)
		}
	}
}

func TestP5_2MixedBlocksInMixedParts(t *testing.T) {
	r := mixed(8)
	for range 60 {
		row, out := mixedBlocks(r)
		if len(row) > 4000 {
			continue
		}
		b := join(bytesOf(row), mixedBytes(r, r.IntN(4)))
		streams(t, len(out), mixedCuts(r, b)...)
		streams(t, r.IntN(1+len(out)), mixedCuts(r, b)...)
		streams(t, 16384, mixedCuts(r, bytesOf(turned(r, row, 1+r.IntN(3))))...)
	}
}

func TestP5_3AtEachTime(t *testing.T) {
	for _, x := range samples() {
		b := bytesOf(x.row)
		s := opened(t, 16384)
		for i, one := range join(b, []byte("xyz")) {
			stands(t, s, i >= len(b), []byte("xyz")[:max(0, i-len(b))], map[bool]api.Errno{true: api.OK, false: api.ErrFlateEnd}[i >= len(b)])
			s.Feed([]byte{one})
		}
		stands(t, s, true, []byte("xyz"), api.OK)
	}
}

func TestP5_3TheyChangeNothing(t *testing.T) {
	r := mixed(9)
	for range 60 {
		row, _ := mixedBlocks(r)
		b := join(bytesOf(turned(r, row, r.IntN(2))), []byte("behind"))
		asked, left := opened(t, 16384), opened(t, 16384)
		for _, part := range mixedCuts(r, b) {
			for range r.IntN(3) {
				asked.Close()
				asked.Done()
				clear(asked.Rest())
				asked.Rest()
			}
			out, e := asked.Feed(part)
			want, wantErr := left.Feed(part)
			if !bytes.Equal(out, want) || e != wantErr {
				t.Fatalf("%q, %d, and without being asked %q, %d", out, e, want, wantErr)
			}
		}
		stands(t, asked, left.Done(), left.Rest(), left.Close())
	}
}

func TestP5_4HoweverBytesAreCut(t *testing.T) {
	r := mixed(10)
	for _, data := range packings(r) {
		b := deflatedElsewhere(t, data, flate.HuffmanOnly+r.IntN(12))
		ways := [][][]byte{{b}, single(b), slices.Collect(slices.Chunk(b, 7))}
		for range 5 {
			ways = append(ways, mixedCuts(r, b))
		}
		for _, parts := range ways {
			s := opened(t, 16384)
			out, e := allOf(s, append(parts, []byte("be"), []byte("hind")))
			if !bytes.Equal(out, data) || e != api.OK {
				t.Errorf("in %d parts: %d bytes of %d, %d", len(parts), len(out), len(data), e)
			}
			stands(t, s, true, []byte("behind"), api.OK)
		}
	}
}

func TestP5_4NeverMoreThanMostAreTold(t *testing.T) {
	r := mixed(11)
	for range 100 {
		row, out := mixedBlocks(r)
		for range 5 {
			most := r.IntN(2 + len(out))
			s := opened(t, most)
			got, e := allOf(s, mixedCuts(r, bytesOf(row)))
			want := api.OK
			if most < len(out) {
				want = api.ErrFlateMost
			}
			if len(got) > most || !bytes.HasPrefix(out, got) || e != want || s.Close() != want {
				t.Errorf("with most %d of %d: %d bytes, %d, %d", most, len(out), len(got), e, s.Close())
			}
		}
	}
}

func TestP5_4WithWhateverBehindIt(t *testing.T) {
	r := mixed(12)
	for range 200 {
		row, out := mixedBlocks(r)
		b := bytesOf(row)
		behind := mixedBytes(r, r.IntN(50))
		got, n, e := inflate.Inflate(join(b, behind), len(out))
		if !bytes.Equal(got, out) || n != len(b) || e != api.OK {
			t.Errorf("%x and %x behind it: %d of %d bytes, %d read of %d, %d", b, behind, len(got), len(out), n, len(b), e)
		}
		s := opened(t, len(out))
		got, e = allOf(s, mixedCuts(r, join(b, behind)))
		if !bytes.Equal(got, out) || e != api.OK {
			t.Errorf("%x and %x behind it, in parts: %d of %d bytes, %d", b, behind, len(got), len(out), e)
		}
		stands(t, s, true, behind, api.OK)
	}
}

// Many blocks that say nothing take no more time each than a few do.
func TestR1ManyEmptyBlocks(t *testing.T) {
	const many = 50000
	head := start(false, 2) + packedHead(lengthsOf(257, 256, 1), []int{0}) + "0"
	for _, row := range []string{fixed(false, ""), stored("", false, "")} {
		rows := strings.Repeat(row, many/8*8) // the stored ones end where a byte ends
		b := bytesOf(rows + fixed(true, fixedBook().text("x")))
		if out, n, e := inflate.Inflate(b, 1); string(out) != "x" || n != len(b) || e != api.OK {
			t.Errorf("%q, %d, %d", out, n, e)
		}
	}
	b := bytesOf(strings.Repeat(head, many/50) + fixed(true, fixedBook().text("x")))
	if out, n, e := inflate.Inflate(b, 1); string(out) != "x" || n != len(b) || e != api.OK {
		t.Errorf("%q, %d, %d", out, n, e)
	}
}

func TestR1NothingStandsBesideAnError(t *testing.T) {
	for row, want := range faulty() {
		if out, n, e := inflate.Inflate(bytesOf(row), 5); out != nil || n != 0 || e != want {
			t.Errorf("Inflate(%x, 5) = %q, %d, %d, want %d", bytesOf(row), out, n, e, want)
		}
		if out, n, e := inflate.Inflate(bytesOf(row)[:2], 5); out != nil || n != 0 || e != api.ErrFlateEnd {
			t.Errorf("Inflate(%x, 5) = %q, %d, %d", bytesOf(row)[:2], out, n, e)
		}
		s := opened(t, 5)
		if out, e := s.Feed(bytesOf(row)); out != nil || e != want {
			t.Errorf("Feed(%x) = %q, %d, want %d", bytesOf(row), out, e, want)
		}
		if s.Done() || len(s.Rest()) != 0 {
			t.Errorf("%t, %x behind an error", s.Done(), s.Rest())
		}
	}
}

// spared is bytes with spare room behind them, which is not to be written into.
func spared(b []byte) (list, whole []byte) {
	whole = join(b, bytes.Repeat([]byte{0x77}, 40))
	return whole[:len(b)], whole
}

func TestR2BytesHandedInStayAsTheyAre(t *testing.T) {
	rows := []string{}
	for _, x := range samples() {
		rows = append(rows, x.row)
	}
	for row := range faulty() {
		rows = append(rows, row)
	}
	for _, row := range rows {
		list, whole := spared(bytesOf(row))
		held := slices.Clone(whole)
		inflate.Inflate(list, 16384)
		for n := range list {
			s := opened(t, 16384)
			s.Feed(list[:n])
			s.Feed(list[n:])
			s.Feed([]byte("more"))
			s.Rest()
		}
		if !bytes.Equal(whole, held) {
			t.Errorf("%x became %x", held, whole)
		}
	}
}

func TestR2BytesHandedInAreNotKept(t *testing.T) {
	for _, x := range samples() {
		b := join(bytesOf(x.row), []byte("behind"))
		s := opened(t, 16384)
		var out []byte
		for part := range slices.Chunk(b, 3) {
			part = slices.Clone(part)
			more, e := s.Feed(part)
			if e != api.OK {
				t.Fatalf("Feed = %d", e)
			}
			out = append(out, more...)
			for i := range part {
				part[i] = 0x55
			}
		}
		if string(out) != x.out {
			t.Errorf("%q, want %q", out, x.out)
		}
		stands(t, s, true, []byte("behind"), api.OK)
	}
}

func TestR2AnswersAreNewMemory(t *testing.T) {
	k := fixedBook()
	b := bytesOf(fixed(true, k.text("abcdefgh")+k.copied(8, 8)+k.copied(9, 16)))
	want := again(again("abcdefgh", 8, 8), 9, 16)
	s := opened(t, 99)
	var told []byte
	for _, x := range join(b, []byte("behind")) {
		out, _ := s.Feed([]byte{x})
		told = append(told, out...)
		// Writing into an answer, and its spare room, reaches nothing that a later copy is made of.
		out = out[:cap(out)]
		for i := range out {
			out[i] = '?'
		}
		rest := s.Rest()
		for i := range rest[:cap(rest)] {
			rest[:cap(rest)][i] = '?'
		}
	}
	if string(told) != want {
		t.Errorf("%q, want %q", told, want)
	}
	stands(t, s, true, []byte("behind"), api.OK)
	// An answer stays as it was when more is fed.
	s = opened(t, 99)
	first, _ := s.Feed(b[:5])
	held := slices.Clone(first)
	s.Feed(b[5:])
	rest := s.Rest()
	s.Feed([]byte("behind"))
	if !bytes.Equal(first, held) || len(rest) != 0 || len(held) == 0 {
		t.Errorf("%q became %q, no rest %q", held, first, rest)
	}
	stored := bytesOf(stored("", true, "abc"))
	out, _, _ := inflate.Inflate(stored, 9)
	clear(stored)
	if string(out) != "abc" {
		t.Errorf("the answer became %q", out)
	}
}

func TestR2StreamsKnowNothingOfOneAnother(t *testing.T) {
	all := samples()
	var streams []*inflate.Stream
	outs := make([][]byte, len(all))
	for range all {
		streams = append(streams, opened(t, 16384))
	}
	for at := range 400 {
		for i, x := range all {
			if b := bytesOf(x.row); at < len(b) {
				out, e := streams[i].Feed(b[at : at+1])
				if e != api.OK {
					t.Fatalf("stream %d: %d", i, e)
				}
				outs[i] = append(outs[i], out...)
			}
		}
	}
	for i, x := range all {
		if string(outs[i]) != x.out {
			t.Errorf("stream %d: %q, want %q", i, outs[i], x.out)
		}
		stands(t, streams[i], true, nil, api.OK)
	}
}

func TestR3NilStreams(t *testing.T) {
	var s *inflate.Stream
	for _, b := range [][]byte{nil, {}, {7}, unhex("4b 4c 4a 06 00")} {
		if out, e := s.Feed(b); out != nil || e != api.ErrNil {
			t.Errorf("Feed = %q, %d", out, e)
		}
	}
	if s.Done() || len(s.Rest()) != 0 || s.Close() != api.ErrNil {
		t.Errorf("%t, %x, %d", s.Done(), s.Rest(), s.Close())
	}
}
