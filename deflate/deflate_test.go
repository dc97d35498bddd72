package deflate_test

import (
	"bytes"
	"compress/flate"
	"encoding/hex"
	"io"
	"math"
	"math/rand/v2"
	"slices"
	"strings"
	"testing"

	"haversack/api"
	"haversack/deflate"
	"haversack/inflate"
	"haversack/match"
)

// mixed tells numbers that look mixed and are the same in each run.
func mixed(seed uint64) *rand.Rand { return rand.New(rand.NewPCG(seed, 7)) }

func join[T any](lists ...[]T) []T { return slices.Concat(lists...) }

func same(s string, n int) []byte { return []byte(strings.Repeat(s, n)) }

func unhex(text string) []byte {
	out, err := hex.DecodeString(strings.ReplaceAll(text, " ", ""))
	if err != nil {
		panic(err)
	}
	return out
}

// each is each of the 256 bytes once.
func each() []byte {
	out := make([]byte, 256)
	for i := range out {
		out[i] = byte(i)
	}
	return out
}

func mixedBytes(r *rand.Rand, n, letters int) []byte {
	out := make([]byte, n)
	for i := range out {
		out[i] = byte(r.IntN(letters))
	}
	return out
}

// patched are n bytes that are made of pieces of what stands ahead of them, and of new ones.
func patched(r *rand.Rand, n int) []byte {
	out := mixedBytes(r, 10, 200)
	for len(out) < n {
		if r.IntN(3) == 0 {
			out = append(out, mixedBytes(r, 1+r.IntN(5), 200)...)
			continue
		}
		from := r.IntN(len(out))
		out = append(out, out[from:from+r.IntN(min(400, len(out)-from)+1)]...)
	}
	return out[:n]
}

// steep are n bytes of which each is half as frequent as the one below it.
func steep(r *rand.Rand, n int) []byte {
	out := make([]byte, n)
	for i := range out {
		for out[i] < 255 && r.IntN(2) == 0 {
			out[i]++
		}
	}
	return out
}

// lits are the literals of some bytes.
func lits(b []byte) []api.Token {
	var out []api.Token
	for _, x := range b {
		out = append(out, api.Token{Lit: x})
	}
	return out
}

func copyOf(length, dist int) api.Token { return api.Token{Len: length, Dist: dist} }

func copies(length, dist, n int) []api.Token {
	return slices.Repeat([]api.Token{copyOf(length, dist)}, n)
}

// saying are tokens that say n bytes of a, in as few as may be.
func saying(n int) []api.Token {
	if n < 4 {
		return lits(same("a", n))
	}
	out := lits([]byte("a"))
	for n--; n > 0; {
		length := min(n, 258)
		if rest := n - length; rest > 0 && rest < 3 {
			length -= 3
		}
		out = append(out, copyOf(length, 1))
		n -= length
	}
	return out
}

// mixedTokens are n tokens, most of which may stand where they do.
func mixedTokens(r *rand.Rand, n, faults int) []api.Token {
	var out []api.Token
	said := 0
	for len(out) < n {
		x := api.Token{Lit: byte(r.IntN(256))}
		if said > 0 && r.IntN(2) == 0 {
			x = copyOf(3+r.IntN(1+r.IntN(256)), 1+r.IntN(1+r.IntN(said)))
		}
		if r.IntN(100) < faults {
			x = api.Token{Lit: byte(r.IntN(2)), Len: r.IntN(262) - 1, Dist: r.IntN(said+3) - 1}
		}
		out = append(out, x)
		said += max(x.Len, 1)
	}
	return out
}

// growing: how often symbols must stand, each as often as the two ahead of it, so that codes of the least cost would
// be as long as there are symbols, less one.
func growing(n int) []int {
	out := []int{1, 1}
	for len(out) < n {
		out = append(out, out[len(out)-1]+out[len(out)-2])
	}
	return out
}

// What the symbols from 257 on and the distances' ones say at least, and how many bits come behind them.
var (
	lengthLeast = []int{3, 4, 5, 6, 7, 8, 9, 10, 11, 13, 15, 17, 19, 23, 27, 31, 35, 43, 51, 59, 67, 83, 99, 115, 131, 163, 195, 227, 258}
	lengthBits  = []int{0, 0, 0, 0, 0, 0, 0, 0, 1, 1, 1, 1, 2, 2, 2, 2, 3, 3, 3, 3, 4, 4, 4, 4, 5, 5, 5, 5, 0}
	distLeast   = []int{1, 2, 3, 4, 5, 7, 9, 13, 17, 25, 33, 49, 65, 97, 129, 193, 257, 385, 513, 769, 1025, 1537, 2049, 3073, 4097, 6145, 8193, 12289, 16385, 24577}
	distBits    = []int{0, 0, 0, 0, 1, 1, 2, 2, 3, 3, 4, 4, 5, 5, 6, 6, 7, 7, 8, 8, 9, 9, 10, 10, 11, 11, 12, 12, 13, 13}
)

// num is a number of n bits as the letters 0 and 1, the lowest first; code is one the highest first, as codes are.
func num(v, n int) string {
	out := []byte(code(v, n))
	slices.Reverse(out)
	return string(out)
}

func code(v, n int) string {
	var out strings.Builder
	for bit := n - 1; bit >= 0; bit-- {
		out.WriteByte('0' + byte(v>>bit&1))
	}
	return out.String()
}

// litCode is a symbol's fixed code: those of 7 bits come first, then those of 8, then those of 9.
func litCode(sym int) string {
	switch {
	case sym >= 256 && sym <= 279:
		return code(sym-256, 7)
	case sym <= 143:
		return code(0b00110000+sym, 8)
	case sym >= 280:
		return code(0b11000000+sym-280, 8)
	}
	return code(0b110010000+sym-144, 9)
}

// lastFrom: the place of the last number that is at most n.
func lastFrom(least []int, n int) int {
	out := 0
	for i, v := range least {
		if v <= n {
			out = i
		}
	}
	return out
}

func slowToken(x api.Token) string {
	if x.Len == 0 {
		return litCode(int(x.Lit))
	}
	length, dist := lastFrom(lengthLeast, x.Len), lastFrom(distLeast, x.Dist)
	return litCode(257+length) + num(x.Len-lengthLeast[length], lengthBits[length]) +
		code(dist, 5) + num(x.Dist-distLeast[dist], distBits[dist])
}

// slowFixed is P7.2's Fixed word by word, of tokens that may stand.
func slowFixed(t []api.Token) []byte {
	var row strings.Builder
	row.WriteString("1" + num(1, 2))
	for _, x := range t {
		row.WriteString(slowToken(x))
	}
	row.WriteString(litCode(256))
	out := make([]byte, (row.Len()+7)/8)
	for i, letter := range row.String() {
		out[i/8] |= byte(letter-'0') << (i % 8)
	}
	return out
}

// slowStored is P7.2's Stored word by word.
func slowStored(data []byte) []byte {
	n := len(data)
	m := 65535 - n
	return append([]byte{1, byte(n % 256), byte(n / 256), byte(m % 256), byte(m / 256)}, data...)
}

func short[T any](list []T) []T { return list[:min(len(list), 40)] }

// inflates holds bytes against the data that they are to be inflated to, all of them used.
func inflates(t *testing.T, b, want []byte) {
	t.Helper()
	out, n, e := inflate.Inflate(b, 16384)
	if !bytes.Equal(out, want) || n != len(b) || e != api.OK {
		t.Errorf("%x is inflated to %.40q (%d bytes), %d of %d read, %d; want %.40q (%d)", short(b), out, len(out), n, len(b), e, want, len(want))
	}
}

// deflated is what Deflate tells of data, held against P7.1.
func deflated(t *testing.T, data []byte) []byte {
	t.Helper()
	b, e := deflate.Deflate(data)
	if e != api.OK {
		t.Fatalf("Deflate(%.40q) = %d", data, e)
	}
	inflates(t, b, data)
	if most := len(slowStored(data)); len(b) > most {
		t.Errorf("Deflate(%.40q) has %d bytes, Stored %d", data, len(b), most)
	}
	if most := len(slowFixed(match.Find(data))); len(b) > most {
		t.Errorf("Deflate(%.40q) has %d bytes, Fixed of what is found %d", data, len(b), most)
	}
	return b
}

// says holds Fixed and Dynamic against what tokens say.
func says(t *testing.T, tokens []api.Token, want []byte) {
	t.Helper()
	if b, e := deflate.Fixed(tokens); !bytes.Equal(b, slowFixed(tokens)) || e != api.OK {
		t.Errorf("Fixed(%v) = %x, %d; want %x", short(tokens), short(b), e, short(slowFixed(tokens)))
	} else {
		inflates(t, b, want)
	}
	brings(t, tokens, want)
}

// brings holds Dynamic against what tokens say.
func brings(t *testing.T, tokens []api.Token, want []byte) {
	t.Helper()
	b, e := deflate.Dynamic(tokens)
	if e != api.OK || len(b) == 0 {
		t.Fatalf("Dynamic(%v) = %x, %d", short(tokens), b, e)
	}
	if b[0]%8 != 0b101 {
		t.Errorf("Dynamic(%v) begins with %x: not the last, or not of kind 2", short(tokens), b[0])
	}
	inflates(t, b, want)
}

// refuses holds Fixed and Dynamic against tokens with a fault.
func refuses(t *testing.T, tokens []api.Token, want api.Errno) {
	t.Helper()
	if e := match.Check(tokens); e != want {
		t.Errorf("Check(%v) = %d, want %d", short(tokens), e, want)
	}
	if b, e := deflate.Fixed(tokens); len(b) != 0 || e != want {
		t.Errorf("Fixed(%v) = %x, %d; want %d", short(tokens), short(b), e, want)
	}
	if b, e := deflate.Dynamic(tokens); len(b) != 0 || e != want {
		t.Errorf("Dynamic(%v) = %x, %d; want %d", short(tokens), short(b), e, want)
	}
}

// samples are data of many kinds, all of which may be deflated.
func samples() [][]byte {
	out := [][]byte{nil, []byte("a"), []byte("ab"), []byte("abc"), []byte("abcabcabc"), {0}, {255}, each(), bytes.Repeat(each(), 2), bytes.Repeat(each(), 64)}
	for _, n := range []int{2, 3, 4, 99, 257, 258, 259, 260, 300, 8192, 16383, 16384} {
		out = append(out, same("a", n), same("\xff", n), same("ab", n)[:n], same("abcdefg", n)[:n])
	}
	r := mixed(1)
	for _, letters := range []int{2, 3, 4, 16, 100, 256} {
		for _, n := range []int{10, 50, 256, 1000, 16383, 16384} {
			out = append(out, mixedBytes(r, n, letters))
		}
	}
	for range 30 {
		out = append(out, patched(r, r.IntN(3000)), steep(r, r.IntN(3000)))
	}
	return append(out, patched(r, 16384), steep(r, 16384))
}

// tooLong are data of more bytes than may be.
func tooLong() [][]byte {
	r := mixed(2)
	return [][]byte{same("a", 16385), mixedBytes(r, 16385, 256), same("ab", 8193), patched(r, 16386), make([]byte, 32768), make([]byte, 65536), make([]byte, 1000000)}
}

// faults: tokens that may stand nowhere, or not behind 300 bytes.
func faults() []api.Token {
	return []api.Token{
		{Dist: 1}, {Lit: 'a', Dist: 1}, {Dist: -1}, {Dist: 32768}, {Dist: math.MaxInt}, {Dist: math.MinInt},
		{Len: 1}, {Lit: 'a', Len: 1}, {Lit: 'a', Len: 3}, {Len: 3}, {Len: 258}, {Len: -1},
		copyOf(1, 1), copyOf(2, 1), copyOf(259, 1), copyOf(-1, 1), copyOf(-3, 1), copyOf(math.MaxInt, 1), copyOf(math.MinInt, 1),
		copyOf(3, 0), copyOf(258, 0), copyOf(3, -1), copyOf(3, 301), copyOf(3, 32768), copyOf(3, 32769), copyOf(3, math.MaxInt), copyOf(3, math.MinInt),
		{Lit: 1, Len: 3, Dist: 1}, {Lit: 255, Len: 258, Dist: 300},
	}
}

func TestP7_1DeflateOfExamples(t *testing.T) {
	if b := deflated(t, same("a", 99)); len(b) > 7 {
		t.Errorf("99 times a: %x", b)
	}
}

func TestP7_1NoData(t *testing.T) {
	for _, data := range [][]byte{nil, {}} {
		if b := deflated(t, data); len(b) > 2 {
			t.Errorf("of no data: %x", b)
		}
	}
}

func TestP7_1EachByteAlone(t *testing.T) {
	for i := range each() {
		deflated(t, each()[i:i+1])
	}
}

func TestP7_1JustAsManyBytesAsMayBeAndOneMore(t *testing.T) {
	for _, data := range tooLong() {
		deflated(t, data[:16384])
		deflated(t, data[:16383])
		if b, e := deflate.Deflate(data); len(b) != 0 || e != api.ErrLong {
			t.Errorf("Deflate of %d bytes: %d of them, %d", len(data), len(b), e)
		}
	}
}

func TestP7_1OneByteAgainAndAgain(t *testing.T) {
	for n := range 1100 {
		deflated(t, same("a", n))
		deflated(t, same("\xff", n))
	}
	if b := deflated(t, same("a", 16384)); len(b) > 110 {
		t.Errorf("16384 times a: %d bytes", len(b))
	}
}

func TestP7_1NoByteTwice(t *testing.T) {
	for n := range 257 {
		deflated(t, each()[:n])
		deflated(t, each()[256-n:])
	}
}

func TestP7_1DataThatCannotBeMadeSmaller(t *testing.T) {
	r := mixed(3)
	for _, n := range []int{1, 2, 3, 4, 5, 6, 10, 100, 255, 256, 257, 1000, 8192, 16383, 16384} {
		if b := deflated(t, mixedBytes(r, n, 256)); len(b) > n+5 {
			t.Errorf("%d bytes became %d", n, len(b))
		}
	}
}

func TestP7_1Samples(t *testing.T) {
	for _, data := range samples() {
		deflated(t, data)
	}
}

func TestP7_1AllShortData(t *testing.T) {
	for letters, longest := range map[int]int{2: 10, 3: 7} {
		for n := range longest + 1 {
			data := make([]byte, n)
			for {
				deflated(t, data)
				i := 0
				for ; i < n && int(data[i]) == letters-1; i++ {
					data[i] = 0
				}
				if i == n {
					break
				}
				data[i]++
			}
		}
	}
}

func TestP7_1MixedData(t *testing.T) {
	r := mixed(4)
	for range 300 {
		deflated(t, patched(r, r.IntN(500)))
		deflated(t, mixedBytes(r, r.IntN(500), 1+r.IntN(256)))
		deflated(t, steep(r, r.IntN(500)))
	}
}

func TestP7_1NoWayThatDeflateHasIsShorter(t *testing.T) {
	shortest := map[int]int{}
	for _, data := range samples() {
		tokens := match.Find(data)
		asItIs, _ := deflate.Stored(data)
		byFixed, _ := deflate.Fixed(tokens)
		byBrought, _ := deflate.Dynamic(tokens)
		b := deflated(t, data)
		least := min(len(asItIs), len(byFixed), len(byBrought))
		if len(b) > least {
			t.Errorf("Deflate(%.40q) has %d bytes; %d, %d and %d could be", data, len(b), len(asItIs), len(byFixed), len(byBrought))
		}
		shortest[slices.Index([]int{len(asItIs), len(byFixed), len(byBrought)}, least)]++
	}
	for way := range 3 {
		if shortest[way] < 5 {
			t.Errorf("way %d was the shortest one %d times alone", way, shortest[way])
		}
	}
}

func TestP7_1TheSameEachTime(t *testing.T) {
	for _, data := range samples() {
		want := deflated(t, data)
		deflate.Deflate([]byte("something else"))
		if got := deflated(t, data); !bytes.Equal(got, want) {
			t.Errorf("Deflate(%.40q) = %x, ahead of it %x", data, short(got), short(want))
		}
	}
}

func TestP7_2StoredOfExamples(t *testing.T) {
	for text, want := range map[string]string{"abc": "01 03 00 fc ff 61 62 63", "": "01 00 00 ff ff"} {
		if b, e := deflate.Stored([]byte(text)); !bytes.Equal(b, unhex(want)) || e != api.OK {
			t.Errorf("Stored(%q) = %x, %d; want %s", text, b, e, want)
		}
	}
	if b, e := deflate.Stored(nil); !bytes.Equal(b, unhex("01 00 00 ff ff")) || e != api.OK {
		t.Errorf("Stored(nil) = %x, %d", b, e)
	}
}

// stores holds Stored against its words.
func stores(t *testing.T, data []byte) {
	t.Helper()
	b, e := deflate.Stored(data)
	if !bytes.Equal(b, slowStored(data)) || e != api.OK {
		t.Errorf("Stored(%.40q) = %x, %d; want %x", data, short(b), e, short(slowStored(data)))
	}
	inflates(t, b, data)
}

func TestP7_2StoredOfEachLength(t *testing.T) {
	data := mixedBytes(mixed(5), 16384, 256)
	for n := range 1000 {
		stores(t, data[:n])
	}
	for _, n := range []int{4095, 4096, 8191, 8192, 8193, 16382, 16383, 16384} {
		stores(t, data[:n])
	}
}

func TestP7_2StoredOfSamples(t *testing.T) {
	for _, data := range samples() {
		stores(t, data)
	}
}

func TestP7_2StoredOfTooMany(t *testing.T) {
	for _, data := range tooLong() {
		stores(t, data[:16384])
		if b, e := deflate.Stored(data); len(b) != 0 || e != api.ErrLong {
			t.Errorf("Stored of %d bytes: %d of them, %d", len(data), len(b), e)
		}
	}
}

func TestP7_2FixedOfExamples(t *testing.T) {
	for _, x := range []struct {
		tokens []api.Token
		want   string
	}{
		{lits([]byte("abc")), "4b 4c 4a 06 00"},
		{join(lits([]byte("a")), copies(6, 1, 1)), "4b 84 00 00"},
		{nil, "03 00"},
	} {
		if b, e := deflate.Fixed(x.tokens); !bytes.Equal(b, unhex(x.want)) || e != api.OK {
			t.Errorf("Fixed(%v) = %x, %d; want %s", x.tokens, b, e, x.want)
		}
	}
	refuses(t, copies(3, 1, 1), api.ErrMatchToken)
}

func TestP7_2NoTokens(t *testing.T) {
	says(t, nil, nil)
	says(t, []api.Token{}, nil)
}

func TestP7_2EachLiteralAlone(t *testing.T) {
	for i := range each() {
		b := each()[i : i+1]
		says(t, lits(b), b)
	}
}

func TestP7_2LiteralsAndNoCopy(t *testing.T) {
	r := mixed(6)
	says(t, lits(each()), each())
	for _, data := range [][]byte{same("a", 2), same("ab", 9), same("a", 1000), same("a", 16384), mixedBytes(r, 16384, 256), steep(r, 5000)} {
		says(t, lits(data), data)
	}
	for n := range 257 {
		says(t, lits(each()[:n]), each()[:n])
	}
}

func TestP7_2EachLength(t *testing.T) {
	for length := 3; length <= 258; length++ {
		says(t, join(lits([]byte("ab")), copies(length, 2, 1)), same("ab", 200)[:2+length])
	}
	// Many in one block, and the longest of all twice.
	for first := 3; first <= 5; first++ {
		tokens := lits([]byte("a"))
		for length := first; length <= 258; length += 3 {
			tokens = append(tokens, copyOf(length, 1))
		}
		tokens = append(tokens, copies(258, 1, 2)...)
		want, e := match.Expand(tokens, 16384)
		if e != api.OK {
			t.Fatal(e)
		}
		says(t, tokens, want)
	}
}

func TestP7_2LengthsWhereSymbolsChange(t *testing.T) {
	for length, want := range map[int]string{
		3: "0000001", 4: "0000010", 10: "0001000", 11: "0001001" + "0", 12: "0001001" + "1", 13: "0001010" + "0", 18: "0001100" + "1",
		19: "0001101" + "00", 34: "0010000" + "11", 35: "0010001" + "000", 66: "0010100" + "111", 67: "0010101" + "0000",
		114: "0010111" + "1111", 115: "11000000" + "0000", 130: "11000000" + "1111", 131: "11000001" + "00000",
		162: "11000001" + "11111", 163: "11000010" + "00000", 226: "11000011" + "11111", 227: "11000100" + "00000", 257: "11000100" + "01111", 258: "11000101",
	} {
		if got := slowToken(copyOf(length, 1)); got != want+"00000" {
			t.Errorf("the tests' own reading of a length of %d: %s", length, got)
		}
		says(t, join(lits([]byte("x")), copies(length, 1, 1)), same("x", 1+length))
	}
}

func TestP7_2EachDistance(t *testing.T) {
	ahead := saying(16381)
	for dist := 1; dist <= 16381; dist++ {
		tokens := append(ahead, copyOf(3, dist))
		if b, e := deflate.Fixed(tokens); !bytes.Equal(b, slowFixed(tokens)) || e != api.OK {
			t.Fatalf("Fixed of a copy from %d: %x, %d; want %x", dist, b, e, slowFixed(tokens))
		}
	}
}

func TestP7_2DistancesWhereSymbolsChange(t *testing.T) {
	data := mixedBytes(mixed(7), 16381, 256)
	all := lits(data)
	for _, least := range distLeast {
		for dist := least - 1; dist <= least+1; dist++ {
			if dist < 1 || dist > len(data) {
				continue
			}
			tokens := append(all[:dist:dist], copyOf(3, dist))
			want, e := match.Expand(tokens, 16384)
			if e != api.OK {
				t.Fatal(e)
			}
			says(t, tokens, want)
		}
	}
}

func TestP7_2CopiesFromOneAndFromAsFarBackAsCanBe(t *testing.T) {
	data := mixedBytes(mixed(8), 16384, 256)
	for _, length := range []int{3, 257, 258} {
		for _, ahead := range []int{1, 2, 3, 257, 258, 259, 8192, 16384 - length} {
			for _, dist := range []int{1, ahead} {
				tokens := append(lits(data[:ahead]), copyOf(length, dist))
				want, e := match.Expand(tokens, 16384)
				if e != api.OK {
					t.Fatal(e)
				}
				says(t, tokens, want)
			}
		}
	}
}

func TestP7_2DistancesAllAlike(t *testing.T) {
	for _, dist := range []int{1, 2, 4, 5, 100, 257, 300} {
		data := mixedBytes(mixed(9), 300, 256)
		for _, n := range []int{1, 2, 50} {
			tokens := append(lits(data), copies(7, dist, n)...)
			want, e := match.Expand(tokens, 16384)
			if e != api.OK {
				t.Fatal(e)
			}
			says(t, tokens, want)
		}
	}
	says(t, join(lits([]byte("a")), copies(258, 1, 63), copies(129, 1, 1)), same("a", 16384))
}

func TestP7_2CodesThatWouldBeTooLong(t *testing.T) {
	var data []byte
	for sym, n := range growing(19) {
		data = append(data, same(string(rune('a'+sym)), n)...)
	}
	says(t, lits(data), data)
	tokens := lits(mixedBytes(mixed(10), 300, 256))
	for sym, n := range growing(17) {
		tokens = append(tokens, copies(3, distLeast[sym], n)...)
	}
	want, e := match.Expand(tokens, 16384)
	if e != api.OK {
		t.Fatal(e)
	}
	says(t, tokens, want)
}

func TestP7_2JustAsManyBytesAsMayBeAndOneMore(t *testing.T) {
	for _, length := range []int{3, 257, 258} {
		ahead := 16384 - length
		says(t, join(saying(ahead), copies(length, 1, 1)), same("a", 16384))
		refuses(t, join(saying(ahead+1), copies(length, 1, 1)), api.ErrLong)
	}
	refuses(t, lits(same("b", 16385)), api.ErrLong)
	refuses(t, join(saying(16384), lits([]byte("a"))), api.ErrLong)
	refuses(t, lits(make([]byte, 100000)), api.ErrLong)
}

func TestP7_2TokensThatCheckRefuses(t *testing.T) {
	ahead := saying(300)
	for _, x := range faults() {
		refuses(t, []api.Token{x}, api.ErrMatchToken)
		refuses(t, append(ahead, x), api.ErrMatchToken)
		refuses(t, join(ahead, []api.Token{x}, ahead), api.ErrMatchToken)
	}
}

func TestP7_2TheFirstOfSeveralFaultsIsTold(t *testing.T) {
	full := saying(16384)
	for _, x := range []api.Token{{Dist: 1}, copyOf(2, 1), copyOf(3, 16385), {Lit: 1, Len: 3, Dist: 1}} {
		bad := []api.Token{x}
		refuses(t, join(full, bad), api.ErrMatchToken)
		refuses(t, join(full, bad, full), api.ErrMatchToken)
		refuses(t, join(full, lits([]byte("a")), bad), api.ErrLong)
		refuses(t, join(bad, full, full), api.ErrMatchToken)
	}
}

func TestP7_2MixedTokens(t *testing.T) {
	r := mixed(11)
	told := map[api.Errno]int{}
	for i := range 1000 {
		tokens := mixedTokens(r, r.IntN(600), i%3)
		want, e := match.Expand(tokens, 16384)
		if e == api.OK {
			says(t, tokens, want)
		} else {
			refuses(t, tokens, e)
		}
		told[e]++
	}
	for _, e := range []api.Errno{api.OK, api.ErrMatchToken, api.ErrLong} {
		if told[e] < 20 {
			t.Errorf("%d was told %d times alone", e, told[e])
		}
	}
}

func TestP7_2TokensOfSamples(t *testing.T) {
	for _, data := range samples() {
		says(t, match.Find(data), data)
	}
}

// feeder feeds a stream, and knows what it is to tell by P7.3's words.
type feeder struct {
	s      *deflate.Stream
	fed    []byte
	told   []byte
	feeds  int // those that were done
	closed bool
}

func newFeeder(t *testing.T) *feeder {
	t.Helper()
	s := deflate.New()
	if s == nil {
		t.Fatal("New tells none")
	}
	return &feeder{s: s}
}

func (f *feeder) feed(t *testing.T, data []byte) api.Errno {
	t.Helper()
	want := api.OK
	switch {
	case f.closed:
		want = api.ErrArg
	case len(f.fed)+len(data) > 16384:
		want = api.ErrLong
	}
	b, e := f.s.Feed(data)
	if e != want || e != api.OK && len(b) != 0 {
		t.Fatalf("Feed of %d bytes behind %d, closed %t: %x, %d; want %d", len(data), len(f.fed), f.closed, short(b), e, want)
	}
	if e == api.OK {
		f.fed = append(f.fed, data...)
		f.told = append(f.told, b...)
		f.feeds++
	}
	return e
}

// close closes the stream, and holds all that it told against P7.3.
func (f *feeder) close(t *testing.T) {
	t.Helper()
	b, e := f.s.Close()
	if f.closed {
		if len(b) != 0 || e != api.ErrArg {
			t.Errorf("Close of a closed one: %x, %d", short(b), e)
		}
		return
	}
	if e != api.OK {
		t.Fatalf("Close = %d", e)
	}
	f.closed = true
	f.told = append(f.told, b...)
	inflates(t, f.told, f.fed)
	if most := len(f.fed) + 5*f.feeds + 5; len(f.told) > most {
		t.Errorf("%d bytes were told, at most %d may be", len(f.told), most)
	}
}

// streams feeds data in parts, and closes.
func streams(t *testing.T, parts ...[]byte) []byte {
	t.Helper()
	f := newFeeder(t)
	for _, part := range parts {
		if e := f.feed(t, part); e != api.OK {
			t.Errorf("Feed of %d bytes: %d", len(part), e)
		}
	}
	f.close(t)
	if whole := slices.Concat(parts...); !bytes.Equal(f.fed, whole) {
		t.Errorf("%d bytes were fed, of %d", len(f.fed), len(whole))
	}
	return f.told
}

func single(b []byte) [][]byte { return slices.Collect(slices.Chunk(b, 1)) }

// mixedCuts are parts, of which some are empty.
func mixedCuts(r *rand.Rand, b []byte) [][]byte {
	var out [][]byte
	for len(b) > 0 {
		n := r.IntN(min(len(b), 1+r.IntN(1+r.IntN(2000))) + 1)
		out = append(out, b[:n])
		b = b[n:]
	}
	return append(out, nil)
}

func TestP7_3StreamOfExamples(t *testing.T) {
	f := newFeeder(t)
	f.feed(t, []byte("ab"))
	f.feed(t, []byte("c"))
	f.close(t)
	if string(f.fed) != "abc" {
		t.Errorf("%q was fed", f.fed)
	}
	if b, e := f.s.Close(); len(b) != 0 || e != api.ErrArg {
		t.Errorf("Close, again: %x, %d", b, e)
	}
}

func TestP7_3NothingFed(t *testing.T) {
	streams(t)
	streams(t, nil)
	streams(t, []byte{})
	streams(t, make([][]byte, 10000)...)
}

func TestP7_3NothingFedManyTimesAmongOthers(t *testing.T) {
	for _, data := range []string{"a", "abc", "abcabcabc"} {
		var parts [][]byte
		for _, part := range single([]byte(data)) {
			parts = append(parts, make([][]byte, 100)...)
			parts = append(parts, part)
		}
		streams(t, append(parts, make([][]byte, 100)...)...)
	}
}

func TestP7_3OneByteAtATime(t *testing.T) {
	for _, data := range samples() {
		streams(t, single(data)...)
	}
}

func TestP7_3AllAtOnce(t *testing.T) {
	for _, data := range samples() {
		streams(t, data)
	}
}

func TestP7_3MixedParts(t *testing.T) {
	r := mixed(12)
	for _, data := range samples() {
		streams(t, mixedCuts(r, data)...)
	}
}

func TestP7_3CutAtEachPlace(t *testing.T) {
	for _, text := range []string{"abcabcabc", "abxbcdeabcdeabxbcde", "aaaaaaaaaaaaaaaaaaaaaa"} {
		for n := range len(text) + 1 {
			streams(t, []byte(text[:n]), []byte(text[n:]))
		}
	}
}

func TestP7_3ClosedStreams(t *testing.T) {
	for _, parts := range [][][]byte{nil, {nil}, {[]byte("abc")}, {make([]byte, 16384)}} {
		f := newFeeder(t)
		for _, part := range parts {
			f.feed(t, part)
		}
		f.close(t)
		for range 3 {
			for _, data := range [][]byte{nil, {}, []byte("a"), make([]byte, 16384), make([]byte, 16385), make([]byte, 100000)} {
				if e := f.feed(t, data); e != api.ErrArg {
					t.Errorf("Feed of a closed one: %d", e)
				}
			}
			f.close(t)
		}
	}
}

func TestP7_3JustAsManyBytesAsMayBeAndOneMore(t *testing.T) {
	for _, data := range tooLong() {
		for _, first := range []int{0, 1, 100, 8192, 16383, 16384} {
			f := newFeeder(t)
			f.feed(t, data[:first])
			if e := f.feed(t, data[first:16385]); e != api.ErrLong {
				t.Errorf("one more than may be, behind %d: %d", first, e)
			}
			if e := f.feed(t, data[first:16384]); e != api.OK {
				t.Errorf("just as many as may be, behind %d: %d", first, e)
			}
			if e := f.feed(t, data[:1]); e != api.ErrLong {
				t.Errorf("one more than may be: %d", e)
			}
			f.feed(t, nil)
			f.close(t)
		}
	}
}

func TestP7_3FeedsBehindOneThatIsTooLong(t *testing.T) {
	f := newFeeder(t)
	for _, n := range []int{16385, 100000, 3, 16382, 16381, 1, 0, 16384} {
		f.feed(t, same("ab", n)[:n])
	}
	f.close(t)
	if len(f.fed) != 16384 || f.feeds != 3 {
		t.Errorf("%d bytes in %d feeds", len(f.fed), f.feeds)
	}
	// Those that are too long count neither as bytes nor as feeds.
	f = newFeeder(t)
	for range 100 {
		f.feed(t, make([]byte, 16385))
	}
	f.close(t)
	if len(f.told) > 5 {
		t.Errorf("nothing was fed, %x was told", f.told)
	}
}

func TestP7_3MixedCalls(t *testing.T) {
	r := mixed(13)
	told := map[api.Errno]int{}
	for range 200 {
		f := newFeeder(t)
		size := 1 + r.IntN(6000)
		for range 12 {
			if r.IntN(12) == 0 {
				f.close(t)
			}
			told[f.feed(t, patched(r, r.IntN(size)))]++
		}
		f.close(t)
	}
	for _, e := range []api.Errno{api.OK, api.ErrArg, api.ErrLong} {
		if told[e] < 100 {
			t.Errorf("%d was told %d times alone", e, told[e])
		}
	}
}

func TestP7_3TheSameEachTime(t *testing.T) {
	r := mixed(14)
	for _, data := range samples() {
		parts := mixedCuts(r, data)
		if one, other := streams(t, parts...), streams(t, parts...); !bytes.Equal(one, other) {
			t.Errorf("%x, another time %x", short(one), short(other))
		}
	}
}

// inflatesInParts holds bytes that come in parts against what they are to be inflated to.
func inflatesInParts(t *testing.T, parts [][]byte, want []byte) {
	t.Helper()
	s, e := inflate.New(len(want))
	if e != api.OK {
		t.Fatal(e)
	}
	var out []byte
	for _, part := range parts {
		more, e := s.Feed(part)
		if e != api.OK {
			t.Fatalf("Feed = %d", e)
		}
		out = append(out, more...)
	}
	if !bytes.Equal(out, want) || !s.Done() || len(s.Rest()) != 0 || s.Close() != api.OK {
		t.Errorf("%.40q, %t, %x, %d; want %.40q", out, s.Done(), s.Rest(), s.Close(), want)
	}
}

// packings: what the calls make of some data.
func packings(t *testing.T, r *rand.Rand, data []byte) map[string][]byte {
	t.Helper()
	out := map[string][]byte{"Deflate": deflated(t, data), "a stream": streams(t, mixedCuts(r, data)...)}
	var e [3]api.Errno
	out["Stored"], e[0] = deflate.Stored(data)
	out["Fixed"], e[1] = deflate.Fixed(match.Find(data))
	out["Dynamic"], e[2] = deflate.Dynamic(match.Find(data))
	if e != [3]api.Errno{} {
		t.Fatal(e)
	}
	return out
}

func TestP7_4InflatedAtOnceAndInWhateverParts(t *testing.T) {
	r := mixed(15)
	for _, data := range samples() {
		for _, b := range packings(t, r, data) {
			inflates(t, b, data)
			inflatesInParts(t, [][]byte{b}, data)
			inflatesInParts(t, single(b), data)
			inflatesInParts(t, mixedCuts(r, b), data)
		}
	}
}

func TestP7_4CutAtEachPlace(t *testing.T) {
	r := mixed(16)
	for _, data := range [][]byte{nil, []byte("a"), []byte("abcabcabcabd"), same("a", 600), steep(r, 100), patched(r, 200)} {
		for _, b := range packings(t, r, data) {
			for n := range len(b) + 1 {
				inflatesInParts(t, [][]byte{b[:n], b[n:]}, data)
			}
		}
	}
}

func TestP7_4TheLibraryInflatesItSo(t *testing.T) {
	r := mixed(17)
	for _, data := range samples() {
		for name, b := range packings(t, r, data) {
			from := bytes.NewReader(b)
			out, err := io.ReadAll(flate.NewReader(from))
			if err != nil || !bytes.Equal(out, data) || from.Len() != 0 {
				t.Errorf("%s: %.40q, %v, %d bytes are left; want %.40q", name, out, err, from.Len(), data)
			}
		}
	}
}

func TestR1NothingStandsBesideAnError(t *testing.T) {
	if b, e := deflate.Deflate(make([]byte, 16385)); b != nil || e != api.ErrLong {
		t.Errorf("Deflate tells %x beside %d", short(b), e)
	}
	if b, e := deflate.Stored(make([]byte, 16385)); b != nil || e != api.ErrLong {
		t.Errorf("Stored tells %x beside %d", short(b), e)
	}
	for _, tokens := range [][]api.Token{join(lits([]byte("abc")), copies(3, 4, 1)), join(saying(16384), lits([]byte("a")))} {
		if b, e := deflate.Fixed(tokens); b != nil || e == api.OK {
			t.Errorf("Fixed tells %x beside %d", short(b), e)
		}
		if b, e := deflate.Dynamic(tokens); b != nil || e == api.OK {
			t.Errorf("Dynamic tells %x beside %d", short(b), e)
		}
	}
	s := deflate.New()
	if b, e := s.Feed(make([]byte, 16385)); b != nil || e != api.ErrLong {
		t.Errorf("Feed tells %x beside %d", short(b), e)
	}
	s.Close()
	if b, e := s.Feed([]byte("a")); b != nil || e != api.ErrArg {
		t.Errorf("Feed tells %x beside %d", short(b), e)
	}
	if b, e := s.Close(); b != nil || e != api.ErrArg {
		t.Errorf("Close tells %x beside %d", short(b), e)
	}
}

// spared is a list with spare room behind it, which is not to be written into.
func spared[T any](l []T) (list, whole []T) {
	whole = append(slices.Clone(l), l...)
	return whole[:len(l)], whole
}

func TestR2ListsHandedInStayAsTheyAre(t *testing.T) {
	r := mixed(18)
	for i := range 200 {
		data, wholeData := spared(patched(r, r.IntN(1000)))
		tokens, wholeTokens := spared(mixedTokens(r, 30, i%2))
		heldData, heldTokens := slices.Clone(wholeData), slices.Clone(wholeTokens)
		deflate.Deflate(data)
		deflate.Stored(data)
		deflate.Fixed(tokens)
		deflate.Dynamic(tokens)
		s := deflate.New()
		n := r.IntN(len(data) + 1)
		s.Feed(data[:n])
		s.Feed(data[n:])
		s.Feed([]byte("more"))
		s.Close()
		if !bytes.Equal(wholeData, heldData) || !slices.Equal(wholeTokens, heldTokens) {
			t.Fatal("a list that was handed in, or its spare room, was written into")
		}
	}
}

func TestR2DataFedAreNotKept(t *testing.T) {
	r := mixed(19)
	for range 100 {
		data := patched(r, 1+r.IntN(500))
		s := deflate.New()
		var told []byte
		for _, part := range mixedCuts(r, data) {
			part := slices.Clone(part)
			b, _ := s.Feed(part)
			told = append(told, b...)
			for i := range part {
				part[i] ^= 0x55
			}
		}
		b, _ := s.Close()
		inflates(t, append(told, b...), data)
	}
}

// spoil writes into a list and its spare room.
func spoil(b []byte) {
	b = b[:cap(b)]
	for i := range b {
		b[i] ^= 0x55
	}
}

func TestR2AnswersAreNewMemory(t *testing.T) {
	calls := map[string]func(data []byte, tokens []api.Token) []byte{
		"Deflate": func(data []byte, _ []api.Token) []byte { b, _ := deflate.Deflate(data); return b },
		"Stored":  func(data []byte, _ []api.Token) []byte { b, _ := deflate.Stored(data); return b },
		"Fixed":   func(_ []byte, tokens []api.Token) []byte { b, _ := deflate.Fixed(tokens); return b },
		"Dynamic": func(_ []byte, tokens []api.Token) []byte { b, _ := deflate.Dynamic(tokens); return b },
	}
	for _, kept := range [][]byte{nil, each(), []byte("abcabcabc-abcabd"), steep(mixed(20), 400)} {
		for name, call := range calls {
			data := slices.Clone(kept)
			tokens := match.Find(data)
			want := slices.Clone(call(data, tokens))
			one, other := call(data, tokens), call(data, tokens)
			spoil(one)
			if !bytes.Equal(other, want) || !bytes.Equal(data, kept) {
				t.Errorf("%s: what one call told was written into, and reached the data or what another told", name)
			}
			spoil(data)
			clear(tokens)
			if !bytes.Equal(other, want) {
				t.Errorf("%s: the list that was handed in was written into, and reached what was told", name)
			}
		}
	}
}

func TestR2WhatAStreamTellsIsNewMemory(t *testing.T) {
	r := mixed(21)
	for range 50 {
		data := patched(r, r.IntN(2000))
		s := deflate.New()
		var told, held [][]byte
		keep := func(b []byte) {
			told, held = append(told, b), append(held, slices.Clone(b))
			spoil(b)
		}
		for _, part := range mixedCuts(r, data) {
			part := slices.Clone(part)
			b, _ := s.Feed(part)
			keep(b)
		}
		b, _ := s.Close()
		keep(b)
		inflates(t, slices.Concat(held...), data)
		for i := range told {
			spoil(told[i])
			if !bytes.Equal(told[i], held[i]) {
				t.Fatal("two answers of a stream share memory")
			}
		}
	}
}

func TestR2StreamsKnowNothingOfOneAnother(t *testing.T) {
	all := samples()
	var feeders []*feeder
	for range all {
		feeders = append(feeders, newFeeder(t))
	}
	for at := 0; at < 16384; at += 100 {
		for i, data := range all {
			if at < len(data) {
				feeders[i].feed(t, data[at:min(at+100, len(data))])
			}
		}
	}
	for i, f := range feeders {
		f.close(t)
		if !bytes.Equal(f.fed, all[i]) {
			t.Errorf("stream %d: %d bytes were fed, of %d", i, len(f.fed), len(all[i]))
		}
	}
}

func TestR3NilStreams(t *testing.T) {
	var s *deflate.Stream
	for _, data := range [][]byte{nil, {}, []byte("abc"), make([]byte, 16384), make([]byte, 16385)} {
		if b, e := s.Feed(data); len(b) != 0 || e != api.ErrNil {
			t.Errorf("Feed = %x, %d", b, e)
		}
		if b, e := s.Close(); len(b) != 0 || e != api.ErrNil {
			t.Errorf("Close = %x, %d", b, e)
		}
	}
}
