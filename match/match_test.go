package match_test

import (
	"bytes"
	"iter"
	"math"
	"math/rand/v2"
	"slices"
	"strings"
	"testing"

	"haversack/api"
	"haversack/match"
)

// mixed tells numbers that look mixed and are the same in each run.
func mixed(seed uint64) *rand.Rand { return rand.New(rand.NewPCG(seed, 6)) }

func join[T any](lists ...[]T) []T { return slices.Concat(lists...) }

// lits are the literals of some bytes.
func lits(s string) []api.Token {
	var out []api.Token
	for i := range len(s) {
		out = append(out, api.Token{Lit: s[i]})
	}
	return out
}

func copyOf(length, dist int) api.Token { return api.Token{Len: length, Dist: dist} }

func copies(length, dist, n int) []api.Token {
	return slices.Repeat([]api.Token{copyOf(length, dist)}, n)
}

func same(s string, n int) string { return strings.Repeat(s, n) }

// saying are tokens that say n bytes of a, in as few as may be.
func saying(n int) []api.Token {
	if n < 4 {
		return lits(same("a", n))
	}
	out := lits("a")
	for n--; n > 0; {
		length := min(n, 258)
		if rest := n - length; rest > 0 && rest < 3 {
			length -= 3
		}
		out = append(out, copyOf(length, 1))
		n -= length
	}
	return out
}

// slowSay is P6.1 and P6.2 word by word, behind what they ask of most.
func slowSay(t []api.Token, most int) ([]byte, api.Errno) {
	var said []byte
	for _, x := range t {
		literal := x.Len == 0 && x.Dist == 0
		copied := x.Len >= 3 && x.Len <= 258 && x.Dist >= 1 && x.Dist <= 32768 && x.Lit == 0 && len(said) >= x.Dist
		switch {
		case literal:
			said = append(said, x.Lit)
		case copied:
			for range x.Len {
				said = append(said, said[len(said)-x.Dist])
			}
		default:
			return nil, api.ErrMatchToken
		}
		if len(said) > most {
			return nil, api.ErrLong
		}
	}
	return said, api.OK
}

// slowMatches are the matches at all places, gone through by distances, the nearest first.
func slowMatches(data []byte) []api.Token {
	out := make([]api.Token, len(data)+1) // there is none behind the last place
	for dist := 1; dist <= 32768 && dist < len(data); dist++ {
		alike := 0
		for i := len(data) - 1; i >= dist; i-- {
			if data[i] != data[i-dist] {
				alike = 0
				continue
			}
			alike++
			if n := min(alike, 258); n >= 3 && n > out[i].Len {
				out[i] = copyOf(n, dist)
			}
		}
	}
	return out
}

// slowFind is P6.3 word by word.
func slowFind(data []byte) []api.Token {
	if len(data) > 16384 {
		return nil
	}
	m := slowMatches(data)
	var out []api.Token
	for i := 0; i < len(data); {
		if m[i].Len == 0 || m[i+1].Len > m[i].Len {
			out = append(out, api.Token{Lit: data[i]})
			i++
		} else {
			out = append(out, m[i])
			i += m[i].Len
		}
	}
	return out
}

// The rows of P6.5: from which number on there are how many extra bits.
var (
	lenRows  = []struct{ from, bits int }{{258, 0}, {131, 5}, {67, 4}, {35, 3}, {19, 2}, {11, 1}, {3, 0}}
	distRows = []struct{ from, bits int }{{16385, 13}, {8193, 12}, {4097, 11}, {2049, 10}, {1025, 9}, {513, 8}, {257, 7}, {129, 6}, {65, 5}, {33, 4}, {17, 3}, {9, 2}, {5, 1}, {1, 0}}
)

func slowExtra(rows []struct{ from, bits int }, n int) int {
	for _, row := range rows {
		if n >= row.from {
			return row.bits
		}
	}
	return 0
}

// slowWidth is P6.5 of one token.
func slowWidth(x api.Token) int {
	if x.Len == 0 {
		if x.Lit < 144 {
			return 8
		}
		return 9
	}
	n := 7
	if x.Len >= 115 {
		n = 8
	}
	return n + 5 + slowExtra(lenRows, x.Len) + slowExtra(distRows, x.Dist)
}

func short[T any](list []T) []T { return list[:min(len(list), 40)] }

// says holds Check and Expand against what tokens say.
func says(t *testing.T, tokens []api.Token, want string) {
	t.Helper()
	if e := match.Check(tokens); e != api.OK {
		t.Errorf("Check(%v) = %d", short(tokens), e)
	}
	got, e := match.Expand(tokens, 16384)
	if string(got) != want || e != api.OK {
		t.Errorf("Expand(%v) = %.80q, %d; want %.80q", short(tokens), got, e, want)
	}
}

// refuses holds Check, Expand and Cost against tokens with a fault.
func refuses(t *testing.T, tokens []api.Token, want api.Errno) {
	t.Helper()
	if e := match.Check(tokens); e != want {
		t.Errorf("Check(%v) = %d, want %d", short(tokens), e, want)
	}
	if got, e := match.Expand(tokens, 16384); len(got) != 0 || e != want {
		t.Errorf("Expand(%v) = %.80q, %d; want %d", short(tokens), got, e, want)
	}
	if got, e := match.Cost(tokens); got != 0 || e != want {
		t.Errorf("Cost(%v) = %d, %d; want %d", short(tokens), got, e, want)
	}
}

// finds holds Find and All against the tokens of some data.
func finds(t *testing.T, data string, want []api.Token) {
	t.Helper()
	if got := match.Find([]byte(data)); !slices.Equal(got, want) {
		t.Errorf("Find(%.80q) = %v, want %v", data, short(got), short(want))
	}
	if got := slices.Collect(match.All([]byte(data))); !slices.Equal(got, want) {
		t.Errorf("All(%.80q) tells %v, want %v", data, short(got), short(want))
	}
}

// costs holds Cost against a number of bits.
func costs(t *testing.T, tokens []api.Token, want int) {
	t.Helper()
	if got, e := match.Cost(tokens); got != want || e != api.OK {
		t.Errorf("Cost(%v) = %d, %d; want %d", short(tokens), got, e, want)
	}
}

// mixedTokens are tokens most of which may stand where they do.
func mixedTokens(r *rand.Rand, n, faults int) []api.Token {
	var out []api.Token
	said := 0
	for len(out) < n {
		x := api.Token{Lit: byte(r.IntN(256))}
		if said > 0 && r.IntN(2) == 0 {
			x = copyOf(3+r.IntN(256), 1+r.IntN(min(said, 32768)))
		}
		if r.IntN(100) < faults {
			x = api.Token{Lit: byte(r.IntN(2)), Len: r.IntN(262) - 1, Dist: r.IntN(said+3) - 1}
		}
		out = append(out, x)
		said += max(x.Len, 1)
	}
	return out
}

func mixedBytes(r *rand.Rand, n, letters int) []byte {
	out := make([]byte, n)
	for i := range out {
		out[i] = byte(r.IntN(letters))
	}
	return out
}

// samples are data of many kinds, all of which may be searched.
func samples() []string {
	out := []string{"", "a", "ab", "aa", "aaa", "aaaa", "abcabcabc", "abxbcdeabcde", "abcybcdezabcde", "abcdabcXabcd"}
	for _, n := range []int{257, 258, 259, 260, 300, 517, 518, 519, 16383, 16384} {
		out = append(out, same("a", n), same("ab", n)[:n], same("abcdefg", n)[:n])
	}
	r := mixed(1)
	for _, letters := range []int{1, 2, 3, 4, 16, 256} {
		for _, n := range []int{50, 1000, 4000, 16384} {
			out = append(out, string(mixedBytes(r, n, letters)))
		}
	}
	for range 20 {
		out = append(out, string(patched(r, r.IntN(3000))))
	}
	return append(out, string(patched(r, 16384)), string(mostlyNoughts(r, 16384)))
}

// patched are n bytes that are made of pieces of what stands ahead of them, and of new ones.
func patched(r *rand.Rand, n int) []byte {
	out := mixedBytes(r, 10, 200)
	for len(out) < n {
		if r.IntN(3) == 0 {
			out = append(out, mixedBytes(r, 1+r.IntN(5), 200)...)
			continue
		}
		from := r.IntN(len(out))
		out = append(out, out[from:from+r.IntN(min(400, len(out)-from)+1)]...)
	}
	return out[:n]
}

func mostlyNoughts(r *rand.Rand, n int) []byte {
	out := make([]byte, n)
	for i := range out {
		if r.IntN(20) == 0 {
			out[i] = byte(1 + r.IntN(2))
		}
	}
	return out
}

// faults: tokens that may stand nowhere, or not behind 300 bytes.
func faults() []api.Token {
	return []api.Token{
		{Dist: 1}, {Lit: 1, Dist: 1}, {Lit: 'a', Dist: 300}, {Dist: -1}, {Dist: 32768}, {Dist: math.MaxInt}, {Dist: math.MinInt},
		{Len: 1}, {Lit: 'a', Len: 1}, {Lit: 'a', Len: 3}, {Len: 3}, {Len: 258}, {Len: -1}, {Lit: 'a', Len: -1},
		copyOf(1, 1), copyOf(2, 1), copyOf(259, 1), copyOf(260, 1), copyOf(-1, 1), copyOf(-3, 1), copyOf(1<<32+3, 1), copyOf(math.MaxInt, 1), copyOf(math.MinInt, 1),
		copyOf(3, 0), copyOf(258, 0), copyOf(3, -1), copyOf(3, 301), copyOf(3, 302), copyOf(3, 32768), copyOf(3, 32769), copyOf(3, 1<<32+1), copyOf(3, math.MaxInt), copyOf(3, math.MinInt),
		{Lit: 1, Len: 3, Dist: 1}, {Lit: 255, Len: 258, Dist: 300},
	}
}

func TestP6_1CheckOfExamples(t *testing.T) {
	for _, x := range []api.Token{{Lit: 'a', Dist: 1}, {Dist: 1}, copyOf(2, 1), copyOf(259, 1)} {
		refuses(t, []api.Token{x}, api.ErrMatchToken)
		refuses(t, join(lits("abc"), []api.Token{x}), api.ErrMatchToken)
	}
	refuses(t, copies(3, 1, 1), api.ErrMatchToken)
}

func TestP6_1CheckOfNoTokens(t *testing.T) {
	says(t, nil, "")
	says(t, []api.Token{}, "")
}

func TestP6_1EachLiteral(t *testing.T) {
	for b := range 256 {
		says(t, []api.Token{{Lit: byte(b)}}, string([]byte{byte(b)}))
	}
}

func TestP6_1TokensThatMayNotBe(t *testing.T) {
	ahead := saying(300)
	for _, x := range faults() {
		refuses(t, join(ahead, []api.Token{x}), api.ErrMatchToken)
		refuses(t, join(ahead, []api.Token{x}, lits("a")), api.ErrMatchToken)
		refuses(t, []api.Token{x}, api.ErrMatchToken)
	}
}

func TestP6_1EachLengthOfACopy(t *testing.T) {
	for length := -5; length < 600; length++ {
		tokens := join(lits("ab"), copies(length, 2, 1))
		if length < 3 || length > 258 {
			refuses(t, tokens, api.ErrMatchToken)
		} else {
			says(t, tokens, same("ab", 200)[:2+length])
		}
	}
}

func TestP6_1EachDistanceOfACopy(t *testing.T) {
	for _, said := range []int{0, 1, 2, 3, 17, 300, 1000} {
		for dist := -3; dist < said+5; dist++ {
			tokens := join(saying(said), copies(3, dist, 1))
			if dist < 1 || dist > said {
				refuses(t, tokens, api.ErrMatchToken)
			} else {
				says(t, tokens, same("a", said+3))
			}
		}
	}
}

func TestP6_1JustAsFarAsWhatWasSaidAndOneFarther(t *testing.T) {
	for _, said := range []int{1, 2, 3, 258, 259, 8192, 16380, 16381} {
		says(t, join(saying(said), copies(3, said, 1)), same("a", said+3))
		for _, dist := range []int{said + 1, 32767, 32768, 32769} {
			refuses(t, join(saying(said), copies(3, dist, 1)), api.ErrMatchToken)
		}
	}
}

func TestP6_1WhatCopiesSaidCountsByBytes(t *testing.T) {
	says(t, join(lits("a"), copies(3, 1, 1), copies(3, 4, 1)), same("a", 7))
	refuses(t, join(lits("a"), copies(3, 1, 1), copies(3, 5, 1)), api.ErrMatchToken)
}

func TestP6_1CopyWithALit(t *testing.T) {
	for b := range 256 {
		tokens := join(lits("a"), []api.Token{{Lit: byte(b), Len: 3, Dist: 1}})
		if b == 0 {
			says(t, tokens, "aaaa")
		} else {
			refuses(t, tokens, api.ErrMatchToken)
		}
	}
}

func TestP6_1JustAsManyBytesAsMayBeAndOneMore(t *testing.T) {
	says(t, lits(same("b", 16384)), same("b", 16384))
	refuses(t, lits(same("b", 16385)), api.ErrLong)
	for _, length := range []int{3, 100, 258} {
		ahead := 16384 - length
		says(t, join(saying(ahead), copies(length, 1, 1)), same("a", 16384))
		refuses(t, join(saying(ahead+1), copies(length, 1, 1)), api.ErrLong)
		refuses(t, join(saying(ahead), lits("a"), copies(length, 1, 1)), api.ErrLong)
	}
	for ahead := 16383; ahead <= 16384; ahead++ {
		refuses(t, join(saying(ahead), copies(3, ahead, 1)), api.ErrLong)
	}
}

func TestP6_1TheFirstOfSeveralFaultsIsTold(t *testing.T) {
	full := saying(16384)
	for _, x := range append(faults(), copyOf(3, 16385), copyOf(258, 32768)) {
		if x.Dist > 300 && x.Dist <= 302 {
			continue // behind so many bytes they may stand
		}
		bad := []api.Token{x}
		refuses(t, join(full, bad), api.ErrMatchToken) // of one token's own two faults, too
		refuses(t, join(full, bad, lits("a")), api.ErrMatchToken)
		refuses(t, join(full, lits("a"), bad), api.ErrLong)
		refuses(t, join(full, copies(3, 1, 1), bad), api.ErrLong)
		refuses(t, join(lits("a"), bad, full, full), api.ErrMatchToken)
		refuses(t, join(full, full, bad, full), api.ErrLong)
	}
}

func TestP6_1MixedTokens(t *testing.T) {
	r := mixed(2)
	told := map[api.Errno]int{}
	for i := range 3000 {
		tokens := mixedTokens(r, r.IntN(300), i%3)
		_, want := slowSay(tokens, 16384)
		if e := match.Check(tokens); e != want {
			t.Fatalf("Check(%v) = %d, want %d", short(tokens), e, want)
		}
		told[want]++
	}
	for _, e := range []api.Errno{api.OK, api.ErrMatchToken, api.ErrLong} {
		if told[e] < 100 {
			t.Errorf("%d was told %d times alone", e, told[e])
		}
	}
}

func TestP6_2ExpandOfExamples(t *testing.T) {
	says(t, join(lits("a"), copies(3, 1, 1)), "aaaa")
	refuses(t, copies(3, 1, 1), api.ErrMatchToken)
}

func TestP6_2MostThatMayNotBe(t *testing.T) {
	lists := [][]api.Token{nil, lits("a"), copies(3, 1, 1), lits(same("a", 16385)), saying(16384)}
	for _, most := range []int{-1, -2, -16384, math.MinInt, 16385, 16386, 1 << 32, math.MaxInt} {
		for _, tokens := range lists { // whatever else is wrong
			if got, e := match.Expand(tokens, most); len(got) != 0 || e != api.ErrArg {
				t.Errorf("Expand(%v, %d) = %.80q, %d", short(tokens), most, got, e)
			}
		}
	}
}

func TestP6_2MostOfNought(t *testing.T) {
	for _, c := range []struct {
		tokens []api.Token
		want   api.Errno
	}{
		{nil, api.OK}, {[]api.Token{}, api.OK}, {lits("a"), api.ErrLong}, {lits("\x00"), api.ErrLong},
		{copies(3, 1, 1), api.ErrMatchToken}, {[]api.Token{{Dist: 1}}, api.ErrMatchToken},
		{join(lits("a"), copies(3, 2, 1)), api.ErrLong}, {join(copies(2, 1, 1), lits("a")), api.ErrMatchToken},
	} {
		if got, e := match.Expand(c.tokens, 0); len(got) != 0 || e != c.want {
			t.Errorf("Expand(%v, 0) = %q, %d; want %d", c.tokens, got, e, c.want)
		}
	}
}

func TestP6_2JustMostBytesAndOneMore(t *testing.T) {
	for _, most := range []int{1, 2, 3, 4, 7, 258, 259, 300, 8192, 16383, 16384} {
		for _, tokens := range [][]api.Token{saying(most), lits(same("a", most))} {
			if got, e := match.Expand(tokens, most); string(got) != same("a", most) || e != api.OK {
				t.Errorf("just %d bytes: %d of them, %d", most, len(got), e)
			}
			if got, e := match.Expand(tokens, most-1); len(got) != 0 || e != api.ErrLong {
				t.Errorf("one more than %d bytes: %d of them, %d", most-1, len(got), e)
			}
			if got, e := match.Expand(append(tokens, api.Token{Dist: 1}), most-1); len(got) != 0 || e != api.ErrLong {
				t.Errorf("one more than %d bytes ahead of a fault: %d of them, %d", most-1, len(got), e)
			}
			if got, e := match.Expand(append(tokens, api.Token{Dist: 1}), most); len(got) != 0 || e != api.ErrMatchToken {
				t.Errorf("just %d bytes ahead of a fault: %d of them, %d", most, len(got), e)
			}
		}
	}
}

func TestP6_2EachMostWithinACopy(t *testing.T) {
	tokens := join(lits("abc"), copies(258, 2, 1), lits("d"))
	want := "abc" + same("bc", 129) + "d"
	for most := range 300 {
		got, e := match.Expand(tokens, most)
		switch {
		case most < len(want):
			if len(got) != 0 || e != api.ErrLong {
				t.Errorf("most %d: %q, %d", most, got, e)
			}
		case string(got) != want || e != api.OK:
			t.Errorf("most %d: %q, %d", most, got, e)
		}
	}
}

func TestP6_2CopiesThatReachIntoThemselves(t *testing.T) {
	letters := "abcdefghijklmnopqrstuvwxyz"
	for dist := 1; dist <= len(letters); dist++ {
		row := letters[len(letters)-dist:]
		for length := 3; length <= 258; length++ {
			says(t, join(lits(letters), copies(length, dist, 1)), letters+same(row, 258)[:length])
		}
	}
}

func TestP6_2CopiesFromWhateverFarBack(t *testing.T) {
	r := mixed(3)
	data := string(mixedBytes(r, 16000, 256))
	for _, dist := range []int{1, 2, 3, 100, 258, 259, 8192, 15999, 16000} {
		for _, length := range []int{3, 4, 100, 257, 258} {
			want := data
			for range length {
				want += want[len(want)-dist : len(want)-dist+1]
			}
			says(t, join(lits(data), copies(length, dist, 1)), want)
		}
	}
}

func TestP6_2MixedTokens(t *testing.T) {
	r := mixed(4)
	told := map[api.Errno]int{}
	for i := range 3000 {
		tokens := mixedTokens(r, r.IntN(100), i%3)
		most := r.IntN(16385)
		if i%2 == 0 {
			most = r.IntN(2000)
		}
		want, wantE := slowSay(tokens, most)
		if got, e := match.Expand(tokens, most); !bytes.Equal(got, want) || e != wantE {
			t.Fatalf("Expand(%v, %d) = %.80q, %d; want %.80q, %d", short(tokens), most, got, e, want, wantE)
		}
		told[wantE]++
	}
	for _, e := range []api.Errno{api.OK, api.ErrMatchToken, api.ErrLong} {
		if told[e] < 100 {
			t.Errorf("%d was told %d times alone", e, told[e])
		}
	}
}

func TestP6_3FindOfExamples(t *testing.T) {
	finds(t, "abcabcabc", join(lits("abc"), copies(6, 3, 1)))
	finds(t, "aaaa", join(lits("a"), copies(3, 1, 1)))
	finds(t, "aaa", lits("aaa"))
	finds(t, "abxbcdeabcde", join(lits("abxbcdea"), copies(4, 5, 1)))
	finds(t, "abcybcdezabcde", join(lits("abcybcdeza"), copies(4, 6, 1)))
}

func TestP6_3NoData(t *testing.T) {
	finds(t, "", nil)
	if got := match.Find(nil); len(got) != 0 {
		t.Errorf("Find(nil) = %v", got)
	}
	for x := range match.All(nil) {
		t.Errorf("All(nil) tells %v", x)
	}
}

func TestP6_3AsManyBytesAsMayBeAndOneMore(t *testing.T) {
	finds(t, same("a", 16384), join(lits("a"), copies(258, 1, 63), copies(129, 1, 1)))
	r := mixed(5)
	for _, letters := range []int{1, 2, 256} {
		data := string(mixedBytes(r, 16384, letters))
		finds(t, data, slowFind([]byte(data)))
		finds(t, data+"a", nil)
		finds(t, data+data, nil)
		finds(t, same(data, 5), nil)
	}
}

func TestP6_3OneByteAgainAndAgain(t *testing.T) {
	for n := 1; n <= 1100; n++ {
		want, left := lits("a"), n-1
		for ; left >= 258; left -= 258 {
			want = append(want, copyOf(258, 1))
		}
		if left >= 3 {
			want = append(want, copyOf(left, 1))
		} else {
			want = append(want, lits(same("a", left))...)
		}
		finds(t, same("a", n), want)
	}
}

func TestP6_3RowsAgainAndAgain(t *testing.T) {
	letters := "abcdefghijklmnopqrstuvwxyz"
	for n := 1; n <= len(letters); n++ {
		for _, long := range []int{3, 4, 100, 258} {
			finds(t, same(letters[:n], 300)[:n+long], join(lits(letters[:n]), copies(long, n, 1)))
		}
		for few := range 3 {
			finds(t, same(letters[:n], 3)[:n+few], lits(same(letters[:n], 3)[:n+few]))
		}
	}
}

func TestP6_3NoByteTwice(t *testing.T) {
	all := make([]byte, 256)
	for i := range all {
		all[i] = byte(255 - i)
	}
	for n := range 257 {
		finds(t, string(all[:n]), lits(string(all[:n])))
	}
}

func TestP6_3PairsTwiceAreNoMatch(t *testing.T) {
	finds(t, "abxab", lits("abxab"))
	finds(t, "abxabyabz", lits("abxabyabz"))
	finds(t, "aa", lits("aa"))
}

// apart is a row of n bytes, none of them a letter or a mark, in which no three bytes stand twice.
func apart(n int) string {
	var out []byte
	for i := 0; len(out) < n; i++ {
		low := byte(i % 128)
		if low > ' ' && low < 127 {
			low += 128
		}
		out = append(out, byte(128+i/128), low, 255)
	}
	return string(out[:n])
}

func TestP6_3MatchesOfEachLength(t *testing.T) {
	row := apart(600)
	for n := 1; n <= 600; n++ {
		ahead := row + "<"
		data := ahead + row[:n] + ">"
		want, left := lits(ahead), n
		for ; left >= 258; left -= 258 {
			want = append(want, copyOf(258, 601))
		}
		if left >= 3 {
			want = append(want, copyOf(left, 601))
		} else {
			want = append(want, lits(row[n-left:n])...)
		}
		finds(t, data, append(want, lits(">")...))
	}
}

func TestP6_3MatchOfJust258AndOfMore(t *testing.T) {
	row := apart(259)
	finds(t, row[:258]+"<"+row[:258], join(lits(row[:258]+"<"), copies(258, 259, 1)))
	finds(t, row+"<"+row, join(lits(row+"<"), copies(258, 260, 1), lits(row[258:])))
	// Beyond 258 bytes nothing counts: the nearer one is told, though the farther one matches longer.
	data := row + "<" + row[:258] + ">" + row
	finds(t, data, join(lits(row+"<"), copies(258, 260, 1), lits(">"), copies(258, 259, 1), lits(row[258:])))
}

func TestP6_3TheNearestOfThoseThatMatchAlike(t *testing.T) {
	finds(t, "abc1abc2abc3", join(lits("abc1"), copies(3, 4, 1), lits("2"), copies(3, 4, 1), lits("3")))
	finds(t, "abcd1abcd2abcd3", join(lits("abcd1"), copies(4, 5, 1), lits("2"), copies(4, 5, 1), lits("3")))
	// At the very end of the data, where none can match on.
	finds(t, "abcd1abce2abc", join(lits("abcd1"), copies(3, 5, 1), lits("e2"), copies(3, 5, 1)))
}

func TestP6_3TheLongestThoughItIsFarther(t *testing.T) {
	finds(t, "abcd1abc2abcd", join(lits("abcd1"), copies(3, 5, 1), lits("2"), copies(4, 9, 1)))
	finds(t, "abcde1abcd2abc3abcde", join(lits("abcde1"), copies(4, 6, 1), lits("2"), copies(3, 5, 1), lits("3"), copies(5, 15, 1)))
	// Farther ones that match less than one in between.
	finds(t, "abc1abcde2abcd3abcde", join(lits("abc1"), copies(3, 4, 1), lits("de2"), copies(4, 6, 1), lits("3"), copies(5, 11, 1)))
}

func TestP6_3WhatMatchesBeyondTheLongestButNotUpToIt(t *testing.T) {
	// At the last abcd the farthest place has its fifth byte too, but another fourth one.
	finds(t, "abcXe1abcd2abcde", join(lits("abcXe1"), copies(3, 6, 1), lits("d2"), copies(4, 5, 1), lits("e")))
}

func TestP6_3AMatchBehindThePlace(t *testing.T) {
	// Longer, alike and shorter than that at the place itself, which is abc or abcd.
	finds(t, "abc1bcde2abcde", join(lits("abc1bcde2a"), copies(4, 6, 1)))
	finds(t, "abcd1bcde2abcde", join(lits("abcd1"), copies(3, 4, 1), lits("e2"), copies(4, 10, 1), lits("e")))
	finds(t, "abc1bcd2abcd", join(lits("abc1bcd2"), copies(3, 8, 1), lits("d")))
	finds(t, "abcd2abcd", join(lits("abcd2"), copies(4, 5, 1)))
	// Longer twice: each place looks at the one right behind it alone.
	finds(t, "abc1bcde2cdefg3abcdefg", join(lits("abc1bcde2"), copies(3, 4, 1), lits("fg3ab"), copies(5, 8, 1)))
	// Longer two places on alone does not count.
	finds(t, "abc1cdefg2abcdefg", join(lits("abc1cdefg2"), copies(3, 10, 1), copies(4, 8, 1)))
}

func TestP6_3AMatchOf258ThatOneBehindCannotPass(t *testing.T) {
	row := apart(300)
	data := row[1:] + "<" + row[:258] + ">" + row
	finds(t, data, slowFind([]byte(data)))
	// At the last row 258 match, and 258 at the place behind it too: not longer.
	if got := match.Find([]byte(data)); !slices.Contains(got, copyOf(258, 259)) {
		t.Errorf("Find tells %v", got)
	}
}

func TestP6_3AMatchAtTheVeryEnd(t *testing.T) {
	for n := 3; n <= 300; n++ {
		row := apart(n)
		first := min(n, 258)
		want := join(lits(row+"<"), copies(first, n+1, 1))
		if rest := n - first; rest >= 3 {
			want = append(want, copyOf(rest, n+1))
		} else {
			want = append(want, lits(row[first:])...)
		}
		finds(t, row+"<"+row, want)
	}
	finds(t, "abc1ab", lits("abc1ab"))
	finds(t, "abc1abc", join(lits("abc1"), copies(3, 4, 1)))
	// The place behind the last one, and those with too few bytes, have none.
	finds(t, "aaaaa", join(lits("a"), copies(4, 1, 1)))
	finds(t, "abcbcabc", join(lits("abcbc"), copies(3, 5, 1)))
}

func TestP6_3AMatchFromAsFarBackAsMayBe(t *testing.T) {
	between := apart(16378)
	finds(t, "abc"+between+"abc", join(lits("abc"+between), copies(3, 16381, 1)))
	finds(t, "abc"+between[:16375]+"abc"+"xyz", join(lits("abc"+between[:16375]), copies(3, 16378, 1), lits("xyz")))
	finds(t, "abc"+between[:8189]+"abcd", join(lits("abc"+between[:8189]), copies(3, 8192, 1), lits("d")))
}

func TestP6_3AllShortData(t *testing.T) {
	for letters, longest := range map[int]int{2: 12, 3: 8} {
		for n := range longest + 1 {
			data := make([]byte, n)
			for {
				if got, want := match.Find(data), slowFind(data); !slices.Equal(got, want) {
					t.Fatalf("Find(%v) = %v, want %v", data, got, want)
				}
				i := 0
				for ; i < n && int(data[i]) == letters-1; i++ {
					data[i] = 0
				}
				if i == n {
					break
				}
				data[i]++
			}
		}
	}
}

func TestP6_3Samples(t *testing.T) {
	for _, data := range samples() {
		finds(t, data, slowFind([]byte(data)))
	}
}

func TestP6_3MixedData(t *testing.T) {
	r := mixed(9)
	for i := range 3000 {
		data := patched(r, r.IntN(400))
		if i%2 == 0 {
			data = mixedBytes(r, r.IntN(200), 1+r.IntN(5))
		}
		if got, want := match.Find(data), slowFind(data); !slices.Equal(got, want) {
			t.Fatalf("Find(%q) = %v, want %v", data, got, want)
		}
	}
}

func TestP6_4AllTellsWhatFindTells(t *testing.T) {
	for _, data := range samples() {
		want := match.Find([]byte(data))
		var got []api.Token
		for x := range match.All([]byte(data)) {
			got = append(got, x)
		}
		if !slices.Equal(got, want) {
			t.Errorf("All(%.80q) tells %v, Find %v", data, short(got), short(want))
		}
	}
}

func TestP6_4LeftEarlyAndRangedOverAgain(t *testing.T) {
	data := "abcybcdezabcde-abcybcdez-aaaaaaaa-abc"
	want := match.Find([]byte(data))
	all := match.All([]byte(data))
	for n := range len(want) + 1 {
		var got []api.Token
		for x := range all {
			if len(got) == n {
				break
			}
			got = append(got, x)
		}
		if !slices.Equal(got, want[:n]) {
			t.Errorf("left behind %d: %v", n, got)
		}
		if got := slices.Collect(all); !slices.Equal(got, want) {
			t.Errorf("ranged over again, when it was left behind %d: %v", n, got)
		}
	}
}

func TestP6_4NoMoreIsToldWhenItIsLeft(t *testing.T) {
	for _, data := range []string{"abcdef", "aaaaaaaa", "abcabcabc", "abcybcdezabcde"} {
		n := len(match.Find([]byte(data)))
		for most := 1; most <= n; most++ {
			told := 0
			match.All([]byte(data))(func(api.Token) bool {
				told++
				return told < most
			})
			if told != most {
				t.Errorf("All(%q) told %d, and was left behind %d", data, told, most)
			}
		}
	}
}

func TestP6_4OneWithinTheOther(t *testing.T) {
	data := []byte("abcybcdezabcde")
	want := match.Find(data)
	all := match.All(data)
	var outer []api.Token
	for x := range all {
		outer = append(outer, x)
		if got := slices.Collect(all); !slices.Equal(got, want) {
			t.Errorf("the inner one tells %v", got)
		}
	}
	if !slices.Equal(outer, want) {
		t.Errorf("the outer one tells %v", outer)
	}
}

func TestP6_4SideBySide(t *testing.T) {
	one, other := "abcabcabc-abcabc", "xyzxyzxy-zxyzxyzz"
	nextOne, stopOne := iter.Pull(match.All([]byte(one)))
	defer stopOne()
	nextOther, stopOther := iter.Pull(match.All([]byte(other)))
	defer stopOther()
	var gotOne, gotOther []api.Token
	for goOn := true; goOn; {
		x, more := nextOne()
		y, others := nextOther()
		if more {
			gotOne = append(gotOne, x)
		}
		if others {
			gotOther = append(gotOther, y)
		}
		goOn = more || others
	}
	if !slices.Equal(gotOne, match.Find([]byte(one))) || !slices.Equal(gotOther, match.Find([]byte(other))) {
		t.Errorf("%v, %v", gotOne, gotOther)
	}
}

func TestP6_4NothingOfTooMuchData(t *testing.T) {
	for _, n := range []int{16385, 16386, 100000} {
		for x := range match.All(make([]byte, n)) {
			t.Errorf("of %d bytes: %v", n, x)
		}
	}
}

func TestP6_5CostOfExamples(t *testing.T) {
	costs(t, join(lits("a"), copies(3, 1, 1)), 20)
	costs(t, lits("\xff"), 9)
}

func TestP6_5NoTokens(t *testing.T) {
	costs(t, nil, 0)
	costs(t, []api.Token{}, 0)
}

func TestP6_5EachLiteral(t *testing.T) {
	for b := range 256 {
		want := 8
		if b >= 144 {
			want = 9
		}
		costs(t, []api.Token{{Lit: byte(b)}}, want)
	}
	costs(t, lits("\x8f\x90"), 17) // 143 and 144
}

func TestP6_5EachLength(t *testing.T) {
	for length := 3; length <= 258; length++ {
		x := copyOf(length, 1)
		costs(t, []api.Token{{Lit: 1}, x}, 8+slowWidth(x))
	}
	// Where the extra bits change, and the code.
	for length, want := range map[int]int{3: 12, 10: 12, 11: 13, 18: 13, 19: 14, 34: 14, 35: 15, 66: 15, 67: 16, 114: 16, 115: 17, 130: 17, 131: 18, 257: 18, 258: 13} {
		costs(t, []api.Token{{Lit: 1}, copyOf(length, 1)}, 8+want)
	}
}

func TestP6_5EachDistance(t *testing.T) {
	ahead := saying(16381)
	before, e := match.Cost(ahead)
	if e != api.OK {
		t.Fatal(e)
	}
	for dist := 1; dist <= 16381; dist++ {
		x := copyOf(3, dist)
		costs(t, append(ahead, x), before+slowWidth(x))
	}
	// Where the extra bits change.
	for bits, from := 1, 5; from < 16381; bits, from = bits+1, 2*from-1 {
		costs(t, append(ahead, copyOf(3, from-1)), before+12+bits-1)
		costs(t, append(ahead, copyOf(3, from)), before+12+bits)
	}
}

func TestP6_5ChecksError(t *testing.T) {
	for _, x := range faults() {
		refuses(t, join(saying(300), []api.Token{x}), api.ErrMatchToken)
	}
	refuses(t, join(saying(16384), lits("a")), api.ErrLong)
	costs(t, lits(same("a", 16384)), 8*16384)
	costs(t, lits(same("\xff", 16384)), 9*16384)
}

func TestP6_5MixedTokens(t *testing.T) {
	r := mixed(10)
	for i := range 3000 {
		tokens := mixedTokens(r, r.IntN(200), i%2)
		want := 0
		_, wantE := slowSay(tokens, 16384)
		if wantE == api.OK {
			for _, x := range tokens {
				want += slowWidth(x)
			}
		}
		if got, e := match.Cost(tokens); got != want || e != wantE {
			t.Fatalf("Cost(%v) = %d, %d; want %d, %d", short(tokens), got, e, want, wantE)
		}
	}
}

// follows holds what Find tells of some data against P6.6.
func follows(t *testing.T, data string) {
	t.Helper()
	tokens := match.Find([]byte(data))
	says(t, tokens, data)
	if got, e := match.Expand(tokens, len(data)); string(got) != data || e != api.OK {
		t.Errorf("Expand of Find(%.80q), at most so many: %.80q, %d", data, got, e)
	}
	if len(tokens) > len(data) {
		t.Errorf("Find(%.80q) has %d tokens of %d bytes", data, len(tokens), len(data))
	}
	cost, e := match.Cost(tokens)
	plain, plainE := match.Cost(lits(data))
	if e != api.OK || plainE != api.OK || cost > plain {
		t.Errorf("Find(%.80q) costs %d, %d; as literals %d, %d", data, cost, e, plain, plainE)
	}
}

func TestP6_6OfSamples(t *testing.T) {
	for _, data := range samples() {
		follows(t, data)
	}
}

func TestP6_6OfMixedData(t *testing.T) {
	r := mixed(11)
	for range 500 {
		follows(t, string(patched(r, r.IntN(2000))))
		follows(t, string(mixedBytes(r, r.IntN(2000), 1+r.IntN(256))))
	}
}

func TestP6_6OfCopiesOfThreeFromFarBack(t *testing.T) {
	for _, n := range []int{4093, 4094, 8189, 8190, 16377, 16378} {
		data := "abc" + apart(n) + "abc"
		follows(t, data)
		if got := match.Find([]byte(data)); !slices.Contains(got, copyOf(3, n+3)) {
			t.Errorf("no copy from %d back", n+3)
		}
	}
}

func TestR1NothingStandsBesideAnError(t *testing.T) {
	for _, tokens := range [][]api.Token{join(lits("abc"), copies(3, 4, 1)), join(saying(16384), lits("a"))} {
		if got, e := match.Expand(tokens, 16384); got != nil || e == api.OK {
			t.Errorf("Expand tells %d bytes beside %d", len(got), e)
		}
		if got, e := match.Cost(tokens); got != 0 || e == api.OK {
			t.Errorf("Cost tells %d beside %d", got, e)
		}
	}
	if got, e := match.Expand(lits("abc"), 2); got != nil || e != api.ErrLong {
		t.Errorf("Expand tells %q beside %d", got, e)
	}
	if got, e := match.Expand(lits("abc"), -1); got != nil || e != api.ErrArg {
		t.Errorf("Expand tells %q beside %d", got, e)
	}
}

func TestR1ManyTokens(t *testing.T) {
	refuses(t, slices.Repeat(lits("a"), 1000000), api.ErrLong)
	refuses(t, join(lits("a"), copies(258, 1, 1000000)), api.ErrLong)
}

// spared is a list with spare room behind it, which is not to be written into.
func spared[T any](l []T) (list, whole []T) {
	whole = append(slices.Clone(l), l...)
	return whole[:len(l)], whole
}

func TestR2ListsHandedInStayAsTheyAre(t *testing.T) {
	r := mixed(12)
	for i := range 200 {
		data, wholeData := spared(patched(r, r.IntN(1000)))
		tokens, wholeTokens := spared(mixedTokens(r, 30, i%2))
		keptData, keptTokens := slices.Clone(wholeData), slices.Clone(wholeTokens)
		match.Find(data)
		for range match.All(data) {
		}
		match.Check(tokens)
		match.Expand(tokens, 16384)
		match.Cost(tokens)
		if !bytes.Equal(wholeData, keptData) || !slices.Equal(wholeTokens, keptTokens) {
			t.Fatal("a list that was handed in, or its spare room, was written into")
		}
	}
}

func TestR2DataAreNotKept(t *testing.T) {
	data := []byte("abcybcdezabcde")
	want := match.Find(data)
	all := match.All(data)
	spoil := func() {
		for i := range data {
			data[i]++
		}
	}
	spoil()
	if got := slices.Collect(all); !slices.Equal(got, want) {
		t.Errorf("the data changed ahead of the range: %v", got)
	}
	var got []api.Token
	for x := range all {
		got = append(got, x)
		spoil()
	}
	if !slices.Equal(got, want) {
		t.Errorf("the data changed while it was ranged over: %v", got)
	}
	clear(data)
	if got := slices.Collect(all); !slices.Equal(got, want) {
		t.Errorf("the data changed between two ranges: %v", got)
	}
}

func TestR2AnswersAreNewMemory(t *testing.T) {
	data := []byte("abcabcabc-abcabd")
	tokens := match.Find(data)
	want := slices.Clone(tokens)
	said, _ := match.Expand(tokens, 16384)
	again, _ := match.Expand(tokens, 16384)
	clear(said[:cap(said)])
	if !bytes.Equal(again, data) {
		t.Errorf("what Expand told is %q, when what it told another time was written into", again)
	}
	others := match.Find(data)
	clear(tokens[:cap(tokens)])
	if !slices.Equal(others, want) {
		t.Errorf("what Find told is %v, when what it told another time was written into", others)
	}
	if !bytes.Equal(again, data) {
		t.Errorf("what Expand told is %q, when its tokens were written into", again)
	}
}

func TestR2TheSameEachTime(t *testing.T) {
	for _, data := range samples()[:30] {
		want := match.Find([]byte(data))
		match.Find([]byte("something else"))
		if got := match.Find([]byte(data)); !slices.Equal(got, want) {
			t.Errorf("Find(%.80q) = %v, ahead of it %v", data, short(got), short(want))
		}
	}
}

func TestR4FieldsWithoutMeaningAreNoughts(t *testing.T) {
	for _, data := range samples() {
		for _, x := range match.Find([]byte(data)) {
			if x.Len == 0 && x.Dist != 0 || x.Len != 0 && x.Lit != 0 {
				t.Fatalf("Find(%.80q) tells %v", data, x)
			}
		}
	}
}
