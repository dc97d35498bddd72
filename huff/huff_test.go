package huff_test

import (
	"math"
	"math/big"
	"math/rand/v2"
	"slices"
	"strings"
	"testing"

	"haversack/api"
	"haversack/bits"
	"haversack/huff"
)

const trillion = 1000000000000

// mixed tells numbers that look mixed and are the same in each run.
func mixed(seed uint64) *rand.Rand { return rand.New(rand.NewPCG(seed, 3)) }

func same(n, v int) []int { return slices.Repeat([]int{v}, n) }

func join(lists ...[]int) []int { return slices.Concat(lists...) }

// fixed is a list of 288 symbols that passes.
func fixed() []int { return join(same(144, 8), same(112, 9), same(24, 7), same(8, 8)) }

// stairs is a list that passes, with a code of each length up to n.
func stairs(n int) []int {
	var out []int
	for long := 1; long <= n; long++ {
		out = append(out, long)
	}
	return append(out, n)
}

// mixedList passes: it splits codes till there are n.
func mixedList(r *rand.Rand, n int) []int {
	out := []int{1, 1}
	for len(out) < n {
		i := r.IntN(len(out))
		if out[i] < 15 {
			out[i]++
			out = append(out, out[i])
		}
	}
	for range r.IntN(5) {
		out = append(out, 0)
	}
	r.Shuffle(len(out), func(i, j int) { out[i], out[j] = out[j], out[i] })
	return out
}

// steepCounts are of sizes far apart, in one list more and in another less; some are 0.
func steepCounts(r *rand.Rand, n int) []int {
	out := make([]int, n)
	steep := 1 + r.IntN(39)
	for i := range out {
		out[i] = r.IntN(1<<r.IntN(steep)+1) >> r.IntN(4)
	}
	return out
}

// lists tells each list of n numbers from 0 to most, as one that is used up at once.
func lists(n, most int, tell func(l []int)) {
	l := make([]int, n)
	for {
		tell(l)
		i := 0
		for i < n && l[i] == most {
			l[i] = 0
			i++
		}
		if i == n {
			return
		}
		l[i]++
	}
}

// slowCheck is P3.1 word by word, in fractions.
func slowCheck(l []int) api.Errno {
	if len(l) == 0 || len(l) > 288 {
		return api.ErrArg
	}
	measure := new(big.Rat)
	var used []int
	for _, n := range l {
		if n < 0 || n > 15 {
			return api.ErrArg
		}
		if n > 0 {
			used = append(used, n)
			measure.Add(measure, big.NewRat(1, int64(math.Pow(2, float64(n)))))
		}
	}
	switch measure.Cmp(big.NewRat(1, 1)) {
	case 1:
		return api.ErrHuffOver
	case -1:
		if !slices.Equal(used, []int{1}) {
			return api.ErrHuffUnder
		}
	}
	return api.OK
}

// slowRows is 'the codes' word by word: rows of the letters 0 and 1, empty for symbols that are not used.
func slowRows(l []int) []string {
	out := make([]string, len(l))
	row := ""
	first := true
	for long := 1; long <= 15; long++ {
		for symbol, n := range l {
			if n != long {
				continue
			}
			if !first {
				row = andOne(row)
			}
			first = false
			row += strings.Repeat("0", long-len(row))
			out[symbol] = row
		}
	}
	return out
}

// andOne reckons with letters: the binary number and 1, in as many places.
func andOne(row string) string {
	i := strings.LastIndex(row, "0")
	return row[:i] + "1" + strings.Repeat("0", len(row)-i-1)
}

// slowNumber: the row's first bit is the lowest.
func slowNumber(row string) uint32 {
	v, weight := uint32(0), uint32(1)
	for _, x := range row {
		if x == '1' {
			v += weight
		}
		weight *= 2
	}
	return v
}

// readerOf tells a reader that has just these bits left.
func readerOf(t *testing.T, row string) *bits.Reader {
	t.Helper()
	ahead := (8 - len(row)%8) % 8
	w := bits.NewWriter()
	w.Put(0, ahead)
	for _, x := range row {
		w.Put(uint32(x-'0'), 1)
	}
	r := bits.NewReader(w.Bytes())
	r.Take(ahead)
	if r.Left() != len(row) {
		t.Fatalf("%d bits are left of %q", r.Left(), row)
	}
	return r
}

// leftOf takes the bits that are left, as letters, and hands them back.
func leftOf(r *bits.Reader) string {
	var out strings.Builder
	for r.Left() > 0 {
		v, _ := r.Take(1)
		out.WriteByte('0' + byte(v))
	}
	r.Back(out.Len())
	return out.String()
}

func checks(t *testing.T, l []int, want api.Errno) {
	t.Helper()
	if e := huff.Check(l); e != want {
		t.Errorf("Check(%v) = %d, want %d", l, e, want)
	}
}

// refused: the three calls that take a list of lengths answer the error, and nothing beside it.
func refused(t *testing.T, l []int, want api.Errno) {
	t.Helper()
	checks(t, l, want)
	if c, e := huff.Codes(l); len(c) != 0 || e != want {
		t.Errorf("Codes(%v) = %v, %d, want none, %d", l, c, e, want)
	}
	if d, e := huff.New(l); d != nil || e != want {
		t.Errorf("New(%v) = %v, %d, want nil, %d", l, d, e, want)
	}
}

func codesOf(t *testing.T, l []int) []uint32 {
	t.Helper()
	c, e := huff.Codes(l)
	if e != api.OK || len(c) != len(l) {
		t.Fatalf("Codes(%v) = %v, %d", l, c, e)
	}
	return c
}

func decoderOf(t *testing.T, l []int) *huff.Decoder {
	t.Helper()
	d, e := huff.New(l)
	if d == nil || e != api.OK {
		t.Fatalf("New(%v) = %v, %d", l, d, e)
	}
	return d
}

// codesAsSaid holds Codes against the words.
func codesAsSaid(t *testing.T, l []int) {
	t.Helper()
	rows := slowRows(l)
	for symbol, code := range codesOf(t, l) {
		if want := slowNumber(rows[symbol]); code != want {
			t.Errorf("Codes(%v): symbol %d has %b, want %b", l, symbol, code, want)
		}
	}
}

// next holds Next against the words, and answers what it told.
func next(t *testing.T, d *huff.Decoder, rows []string, r *bits.Reader) (int, api.Errno) {
	t.Helper()
	left, gone := leftOf(r), r.Gone()
	wantSym, wantErr, wantLong := 0, api.ErrHuffCode, 0
	for symbol, row := range rows {
		if row == "" {
			continue
		}
		if strings.HasPrefix(row, left) && len(left) < len(row) {
			wantErr = api.ErrBitsEnd
		}
		if strings.HasPrefix(left, row) {
			wantSym, wantErr, wantLong = symbol, api.OK, len(row)
		}
	}
	symbol, e := d.Next(r)
	if symbol != wantSym || e != wantErr {
		t.Errorf("rows %v, bits %q: Next = %d, %d, want %d, %d", rows, left, symbol, e, wantSym, wantErr)
	}
	if r.Gone()-gone != wantLong {
		t.Errorf("rows %v, bits %q: Next took %d bits, want %d", rows, left, r.Gone()-gone, wantLong)
	}
	return symbol, e
}

func limitOf(t *testing.T, counts []int, most int) []int {
	t.Helper()
	l, e := huff.Limit(counts, most)
	if e != api.OK || len(l) != len(counts) {
		t.Fatalf("Limit(%v, %d) = %v, %d", counts, most, l, e)
	}
	return l
}

func notLimited(t *testing.T, counts []int, most int, want api.Errno) {
	t.Helper()
	if l, e := huff.Limit(counts, most); len(l) != 0 || e != want {
		t.Errorf("Limit(%d counts, %d) = %v, %d, want none, %d", len(counts), most, l, e, want)
	}
}

func cost(counts, l []int) int {
	sum := 0
	for i, n := range counts {
		sum += n * l[i]
	}
	return sum
}

// usedOf: the counts above 0, the greatest first.
func usedOf(counts []int) []int {
	var out []int
	for _, n := range counts {
		if n > 0 {
			out = append(out, n)
		}
	}
	slices.Sort(out)
	slices.Reverse(out)
	return out
}

// leastOfAll tries every list of lengths from 1 to most, of two counts or more that are all above 0.
func leastOfAll(counts []int, most int) int {
	least := math.MaxInt
	lists(len(counts), most-1, func(l []int) {
		measure, sum := 0, 0
		for i, n := range l {
			measure += 1 << (most - n - 1)
			sum += counts[i] * (n + 1)
		}
		if measure == 1<<most {
			least = min(least, sum)
		}
	})
	return least
}

// leastByTree goes down a tree, whose open ends at each depth become symbols, the greatest counts first, or two ends
// each a step further down; each step down costs the counts that are still to come.
func leastByTree(counts []int, most int) int {
	type stand struct{ depth, open, given int }
	used := usedOf(counts)
	still := make([]int, len(used)+1)
	for i := len(used) - 1; i >= 0; i-- {
		still[i] = still[i+1] + used[i]
	}
	known := map[stand]int{}
	var least func(at stand) int
	least = func(at stand) int {
		if at.given == len(used) && at.open == 0 {
			return 0
		}
		if at.open > len(used)-at.given || at.depth == most || at.open == 0 {
			if at.depth == most && at.open == len(used)-at.given {
				return 0
			}
			return math.MaxInt / 2
		}
		if sum, there := known[at]; there {
			return sum
		}
		best := math.MaxInt / 2
		for here := 0; here <= at.open; here++ {
			given := at.given + here
			best = min(best, still[given]+least(stand{at.depth + 1, 2 * (at.open - here), given}))
		}
		known[at] = best
		return best
	}
	return still[0] + least(stand{1, 2, 0})
}

// leastWithoutLimit: the two lightest are laid together, till one is left.
func leastWithoutLimit(counts []int) int {
	heap := usedOf(counts)
	sum := 0
	for len(heap) > 1 {
		slices.Sort(heap)
		pair := heap[0] + heap[1]
		sum += pair
		heap = append(heap[2:], pair)
	}
	return sum
}

// limited holds a list of Limit against all that is said of it, but for the least cost of two counts or more.
func limited(t *testing.T, counts []int, most int) []int {
	t.Helper()
	l := limitOf(t, counts, most)
	used := len(usedOf(counts))
	for i, n := range counts {
		switch {
		case n == 0 && l[i] != 0, n > 0 && (l[i] < 1 || l[i] > most), n > 0 && used == 1 && l[i] != 1:
			t.Errorf("Limit(%v, %d) = %v: length %d of count %d", counts, most, l, l[i], n)
		}
	}
	want := api.OK
	if used == 0 {
		want = api.ErrHuffUnder
	}
	if e := slowCheck(l); e != want {
		t.Errorf("Limit(%v, %d) = %v, whose measure is not 1: %d", counts, most, l, e)
	}
	return l
}

func least(t *testing.T, counts []int, most, want int) {
	t.Helper()
	l := limited(t, counts, most)
	if got := cost(counts, l); got != want {
		t.Errorf("Limit(%v, %d) = %v costs %d, want %d", counts, most, l, got, want)
	}
}

func TestP3_1CheckOfExamples(t *testing.T) {
	checks(t, []int{2, 1, 3, 3}, api.OK)
	checks(t, []int{1, 1, 1}, api.ErrHuffOver)
	checks(t, []int{2, 2}, api.ErrHuffUnder)
	checks(t, []int{0, 1}, api.OK)
	checks(t, []int{0, 2}, api.ErrHuffUnder)
	checks(t, []int{16}, api.ErrArg)
}

func TestP3_1CheckOfNumbersOfSymbols(t *testing.T) {
	refused(t, nil, api.ErrArg)
	refused(t, []int{}, api.ErrArg)
	checks(t, []int{1}, api.OK)
	checks(t, fixed(), api.OK)
	refused(t, append(fixed(), 0), api.ErrArg)
	checks(t, join([]int{1}, same(287, 0)), api.OK)
	refused(t, join([]int{1}, same(288, 0)), api.ErrArg)
	refused(t, same(1000, 5), api.ErrArg)
	checks(t, join(same(224, 8), same(64, 9)), api.OK)
	refused(t, join(same(223, 8), same(65, 9)), api.ErrHuffUnder)
}

func TestP3_1CheckOfLengthsThatMayNotBe(t *testing.T) {
	for _, n := range []int{-1, 16, 17, -15, 64, 1 << 32, math.MaxInt, math.MinInt} {
		refused(t, []int{n}, api.ErrArg)
		refused(t, []int{1, 1, n}, api.ErrArg)
		refused(t, []int{n, 1, 1}, api.ErrArg)
		refused(t, []int{n, 1, 1, 1}, api.ErrArg) // ahead of its measure, which is above 1
		refused(t, []int{2, n, 2}, api.ErrArg)    // or below it
		refused(t, join(same(287, 9), []int{n}), api.ErrArg)
	}
}

func TestP3_1CheckOfTheLongestLengths(t *testing.T) {
	checks(t, stairs(15), api.OK)
	refused(t, append(stairs(15), 15), api.ErrHuffOver)
	refused(t, stairs(15)[:15], api.ErrHuffUnder)
	refused(t, same(288, 15), api.ErrHuffUnder)
	refused(t, same(288, 1), api.ErrHuffOver)
	checks(t, same(256, 8), api.OK)
	refused(t, same(257, 8), api.ErrHuffOver)
	refused(t, same(255, 8), api.ErrHuffUnder)
}

func TestP3_1CheckOfOneUsedSymbolOrNone(t *testing.T) {
	for n := 1; n <= 15; n++ {
		want := api.ErrHuffUnder
		if n == 1 {
			want = api.OK
		}
		checks(t, []int{n}, want)
		checks(t, []int{0, 0, n, 0}, want)
		checks(t, join(same(287, 0), []int{n}), want)
	}
	for _, n := range []int{1, 2, 288} {
		refused(t, same(n, 0), api.ErrHuffUnder)
	}
	refused(t, []int{2, 2, 0}, api.ErrHuffUnder) // a half as well, but of two symbols
	refused(t, []int{1, 2}, api.ErrHuffUnder)
	checks(t, []int{1, 1}, api.OK)
	checks(t, []int{1, 0, 1}, api.OK)
}

func TestP3_1CheckOfEverySmallList(t *testing.T) {
	for n := 1; n <= 5; n++ {
		lists(n, 5, func(l []int) { checks(t, l, slowCheck(l)) })
	}
}

func TestP3_1CheckOfListsThatNearlyPass(t *testing.T) {
	r := mixed(1)
	for range 300 {
		l := mixedList(r, 2+r.IntN(280))
		checks(t, l, api.OK)
		i := r.IntN(len(l))
		l[i] = max(0, min(15, l[i]+r.IntN(3)-1))
		checks(t, l, slowCheck(l))
	}
}

func TestP3_2CodesOfExamples(t *testing.T) {
	if c := codesOf(t, []int{2, 1, 3, 3}); !slices.Equal(c, []uint32{1, 0, 3, 7}) {
		t.Errorf("%v", c)
	}
	if c := codesOf(t, []int{3, 3, 3, 3, 3, 2, 4, 4}); !slices.Equal(c, []uint32{0b010, 0b110, 0b001, 0b101, 0b011, 0b00, 0b0111, 0b1111}) {
		t.Errorf("%b", c)
	}
	for _, l := range [][]int{{1}, {0, 1}, {0, 0, 1, 0}} {
		if c := codesOf(t, l); slices.Max(c) != 0 {
			t.Errorf("Codes(%v) = %v", l, c)
		}
	}
	c := codesOf(t, fixed())
	for symbol, want := range map[int]uint32{0: 0b00001100, 143: 0b11111101, 144: 0b000010011, 255: 0b111111111, 256: 0, 279: 0b1110100, 280: 0b00000011, 287: 0b11100011} {
		if c[symbol] != want {
			t.Errorf("symbol %d has %b, want %b", symbol, c[symbol], want)
		}
	}
}

func TestP3_2CodesAreThoseOfTheWords(t *testing.T) {
	for n := 1; n <= 5; n++ {
		lists(n, 4, func(l []int) {
			if e := slowCheck(l); e != api.OK {
				refused(t, l, e)
				return
			}
			codesAsSaid(t, l)
		})
	}
	codesAsSaid(t, stairs(15))
	codesAsSaid(t, fixed())
	codesAsSaid(t, same(256, 8))
	down := stairs(15)
	slices.Reverse(down)
	codesAsSaid(t, join(same(272, 0), down))
	r := mixed(2)
	for range 200 {
		codesAsSaid(t, mixedList(r, 2+r.IntN(280)))
	}
}

func TestP3_2PutLaysTheCode(t *testing.T) {
	r := mixed(3)
	for _, l := range [][]int{{2, 1, 3, 3}, {0, 1}, stairs(15), fixed(), mixedList(r, 100)} {
		rows := slowRows(l)
		for symbol, code := range codesOf(t, l) {
			w := bits.NewWriter()
			if e := w.Put(code, l[symbol]); e != api.OK || w.Len() != len(rows[symbol]) {
				t.Fatalf("Put of %d's code answers %d, and lays %d bits", symbol, e, w.Len())
			}
			if got := leftOf(bits.NewReader(w.Bytes()))[:w.Len()]; got != rows[symbol] {
				t.Errorf("symbol %d is laid as %s, want %s", symbol, got, rows[symbol])
			}
		}
	}
}

func TestP3_3LimitOfExamples(t *testing.T) {
	l := limitOf(t, []int{5, 1, 1, 1}, 15)
	slices.Sort(l[1:])
	if !slices.Equal(l, []int{1, 2, 3, 3}) {
		t.Errorf("%v", l)
	}
	if l := limitOf(t, []int{5, 1, 1, 1}, 2); !slices.Equal(l, []int{2, 2, 2, 2}) {
		t.Errorf("%v", l)
	}
	if l := limitOf(t, []int{0, 7}, 3); !slices.Equal(l, []int{0, 1}) {
		t.Errorf("%v", l)
	}
	if l := limitOf(t, []int{0}, 3); !slices.Equal(l, []int{0}) {
		t.Errorf("%v", l)
	}
	notLimited(t, []int{1, 1, 1}, 1, api.ErrHuffOver)
}

func TestP3_3LimitOfNumbersOfCounts(t *testing.T) {
	for _, most := range []int{1, 9, 15} {
		notLimited(t, nil, most, api.ErrArg)
		notLimited(t, []int{}, most, api.ErrArg)
		notLimited(t, same(289, 0), most, api.ErrArg)
		notLimited(t, same(289, 1), most, api.ErrArg)
		limited(t, same(288, 0), most)
		limited(t, join(same(287, 0), []int{1}), most)
	}
	least(t, same(288, 1), 15, 224*8+64*9)
	least(t, same(288, 1), 9, 224*8+64*9)
	notLimited(t, same(288, 1), 8, api.ErrHuffOver)
}

func TestP3_3LimitOfCountsThatMayNotBe(t *testing.T) {
	for _, n := range []int{-1, trillion + 1, -trillion, math.MaxInt, math.MinInt} {
		for _, counts := range [][]int{{n}, {n, 1}, {1, n}, {1, 1, 1, n}, join([]int{n}, same(287, 1))} {
			for _, most := range []int{1, 2, 15} {
				notLimited(t, counts, most, api.ErrArg)
			}
		}
	}
	for _, n := range []int{1, trillion - 1, trillion} {
		limited(t, []int{n}, 1)
		limited(t, []int{n, 0, n}, 1)
	}
}

func TestP3_3LimitOfMostThatMayNotBe(t *testing.T) {
	for _, most := range []int{0, -1, 16, 17, 63, 64, 65, math.MaxInt, math.MinInt} {
		for _, counts := range [][]int{{0}, {1}, {1, 1}, {5, 1, 1, 1}, same(288, 1)} {
			notLimited(t, counts, most, api.ErrArg)
		}
	}
}

func TestP3_3LimitOfAsManyAsGo(t *testing.T) {
	for most := 1; most <= 8; most++ {
		n := 1 << most
		least(t, same(n, 3), most, 3*n*most)
		rise := make([]int, n)
		for i := range rise {
			rise[i] = i + 1
		}
		if l := limited(t, rise, most); slices.Min(l) != most {
			t.Errorf("Limit(1 to %d, %d) = %v", n, most, l)
		}
		notLimited(t, same(n+1, 3), most, api.ErrHuffOver)
		limited(t, same(n+1, 3), most+1)
		limited(t, append(same(n, 3), 0), most)
		notLimited(t, append(same(n+1, 3), 0), most, api.ErrHuffOver)
	}
}

func TestP3_3LimitOfOneOrNone(t *testing.T) {
	for most := 1; most <= 15; most++ {
		for _, n := range []int{1, 7, trillion} {
			least(t, []int{n}, most, n)
			least(t, []int{0, 0, n, 0}, most, n)
		}
		limited(t, []int{0}, most)
		limited(t, same(9, 0), most)
		least(t, []int{0, 4, 0, 9}, most, 13)
	}
}

func TestP3_3LimitCostsTheLeastOfAllLists(t *testing.T) {
	for n := 2; n <= 4; n++ {
		lists(n, 4, func(l []int) {
			counts := make([]int, n)
			for i, v := range l {
				counts[i] = []int{1, 2, 3, 5, 9}[v]
			}
			for most := 2; most <= 4; most++ {
				least(t, counts, most, leastOfAll(counts, most))
			}
		})
	}
	r := mixed(4)
	for range 60 {
		counts := make([]int, 2+r.IntN(5))
		for i := range counts {
			counts[i] = 1 << r.IntN(8)
		}
		for most := 3; most <= 5; most++ {
			least(t, counts, most, leastOfAll(counts, most))
		}
	}
}

func TestP3_3LimitCostsTheLeastOfLongerLists(t *testing.T) {
	r := mixed(5)
	for range 150 {
		counts := steepCounts(r, 2+r.IntN(40))
		for most := 1; most <= 15; most++ {
			switch used := len(usedOf(counts)); {
			case used > 1<<most:
				notLimited(t, counts, most, api.ErrHuffOver)
			case used > 1:
				least(t, counts, most, leastByTree(counts, most))
			}
		}
	}
}

func TestP3_3LimitOfSteepCounts(t *testing.T) {
	one, two := 1, 1
	var counts []int
	for range 50 { // their codes would be as long as they are many
		counts = append(counts, one)
		one, two = two, one+two
	}
	for n := 2; n <= len(counts); n++ {
		for most := 6; most <= 15; most++ {
			want := leastByTree(counts[:n], most)
			least(t, counts[:n], most, want)
			if n <= most+1 && want != leastWithoutLimit(counts[:n]) {
				t.Errorf("%d counts in %d bits: the two least ones differ", n, most)
			}
		}
	}
	least(t, join(same(16, trillion), []int{1, 1}), 15, leastByTree(join(same(16, trillion), []int{1, 1}), 15))
	whole := join(same(287, trillion), []int{1})
	least(t, whole, 15, leastWithoutLimit(whole))
	least(t, same(288, trillion), 15, trillion*(224*8+64*9))
	least(t, same(288, trillion), 9, trillion*(224*8+64*9))
}

func TestP3_3LimitWhereTheLimitDoesNotBind(t *testing.T) {
	r := mixed(6)
	for range 100 {
		counts := make([]int, 2+r.IntN(287))
		for i := range counts {
			counts[i] = r.IntN(100) // so flat that no code is longer than 15
		}
		if len(usedOf(counts)) > 1 {
			least(t, counts, 15, leastWithoutLimit(counts))
		}
	}
}

func TestP3_4NextOfExamples(t *testing.T) {
	for _, x := range []struct {
		l    []int
		row  string
		syms []int
		end  api.Errno
	}{
		{[]int{2, 1, 3, 3}, "0101111", []int{1, 0, 3}, api.ErrBitsEnd},
		{[]int{0, 1}, "01", []int{1}, api.ErrHuffCode},
		{[]int{2, 1, 3, 3}, "11011011", []int{2, 2}, api.ErrBitsEnd},
		{[]int{2, 1, 3, 3}, "", nil, api.ErrBitsEnd},
		{[]int{0, 1}, "", nil, api.ErrBitsEnd},
		{[]int{0, 1}, "000", []int{1, 1, 1}, api.ErrBitsEnd},
		{[]int{0, 1}, "100000000000000000", nil, api.ErrHuffCode},
		{[]int{1, 0, 1}, "0110", []int{0, 2, 2, 0}, api.ErrBitsEnd},
		{stairs(15), "111111111111111", []int{15}, api.ErrBitsEnd},
		{stairs(15), "111111111111110", []int{14}, api.ErrBitsEnd},
		{stairs(15), "11111111111111", nil, api.ErrBitsEnd},
	} {
		d, r := decoderOf(t, x.l), readerOf(t, x.row)
		for _, want := range x.syms {
			if symbol, e := d.Next(r); symbol != want || e != api.OK {
				t.Errorf("%v over %s: %d, %d, want %d", x.l, x.row, symbol, e, want)
			}
		}
		for range 2 { // nothing was taken, so it is told once more
			gone := r.Gone()
			if symbol, e := d.Next(r); symbol != 0 || e != x.end || r.Gone() != gone {
				t.Errorf("%v at the end of %s: %d, %d", x.l, x.row, symbol, e)
			}
		}
	}
}

func TestP3_4NewRefusesWhatCheckRefuses(t *testing.T) {
	for n := 1; n <= 4; n++ {
		lists(n, 4, func(l []int) {
			if e := slowCheck(l); e != api.OK {
				refused(t, l, e)
			} else {
				decoderOf(t, l)
			}
		})
	}
}

func TestP3_4NextOverEveryRow(t *testing.T) {
	for _, l := range [][]int{{1}, {0, 1}, {1, 1}, {2, 1, 3, 3}, {2, 2, 2, 2}, {3, 3, 0, 3, 3, 1}, {4, 4, 3, 2, 1}, stairs(7), same(8, 3)} {
		d, rows := decoderOf(t, l), slowRows(l)
		for n := range 9 {
			lists(n, 1, func(row []int) {
				var text strings.Builder
				for _, x := range row {
					text.WriteByte('0' + byte(x))
				}
				next(t, d, rows, readerOf(t, text.String()))
			})
		}
	}
}

func TestP3_4NextOfEachCodeAndOfWhatBeginsIt(t *testing.T) {
	r := mixed(7)
	for _, l := range [][]int{fixed(), stairs(15), mixedList(r, 288-5), mixedList(r, 60)} {
		d, rows := decoderOf(t, l), slowRows(l)
		for symbol, row := range rows {
			if row == "" {
				continue
			}
			for _, behind := range []string{"", "0", "1", "1011", strings.Repeat("1", 40)} {
				if got, e := next(t, d, rows, readerOf(t, row+behind)); got != symbol || e != api.OK {
					t.Errorf("code %s is read as %d, %d, want %d", row, got, e, symbol)
				}
			}
			for n := range row {
				if _, e := next(t, d, rows, readerOf(t, row[:n])); e != api.ErrBitsEnd {
					t.Errorf("the first %d bits of %s: %d", n, row, e)
				}
			}
		}
	}
}

func TestP3_4NextGoesOnWhenMoreBitsCome(t *testing.T) {
	d := decoderOf(t, stairs(15))
	r := bits.NewReader([]byte{0xff})
	if _, e := d.Next(r); e != api.ErrBitsEnd || r.Gone() != 0 {
		t.Errorf("%d, gone %d", e, r.Gone())
	}
	r.More([]byte{0x3f})
	if symbol, e := d.Next(r); symbol != 14 || e != api.OK || r.Gone() != 15 {
		t.Errorf("%d, %d, gone %d", symbol, e, r.Gone())
	}
	if symbol, e := d.Next(r); symbol != 0 || e != api.OK || r.Left() != 0 {
		t.Errorf("%d, %d, left %d", symbol, e, r.Left())
	}
}

func TestP3_5SymbolsThatAreLaidAreRead(t *testing.T) {
	r := mixed(8)
	all := [][]int{{1}, {0, 1}, {1, 1}, {2, 1, 3, 3}, stairs(15), fixed()}
	for range 60 {
		all = append(all, mixedList(r, 2+r.IntN(280)))
	}
	for _, l := range all {
		codes, d, w := codesOf(t, l), decoderOf(t, l), bits.NewWriter()
		var laid []int
		for len(laid) < 400 {
			if symbol := r.IntN(len(l)); l[symbol] > 0 {
				laid = append(laid, symbol)
				w.Put(codes[symbol], l[symbol])
			}
		}
		reader := bits.NewReader(w.Bytes())
		for i, want := range laid {
			if symbol, e := d.Next(reader); symbol != want || e != api.OK {
				t.Fatalf("%v: symbol %d of the row is %d, %d, want %d", l, i, symbol, e, want)
			}
		}
		if reader.Gone() != w.Len() {
			t.Errorf("%d bits are gone, %d were laid", reader.Gone(), w.Len())
		}
	}
}

func TestP3_5NoCodeBeginsWithAnother(t *testing.T) {
	r := mixed(9)
	for _, l := range [][]int{{2, 1, 3, 3}, stairs(15), fixed(), mixedList(r, 200), mixedList(r, 30)} {
		codes := codesOf(t, l)
		for a, n := range l {
			for b, m := range l {
				if a != b && n > 0 && n <= m && codes[b]&(1<<n-1) == codes[a] {
					t.Errorf("%v: the code of %d begins with that of %d", l, b, a)
				}
			}
		}
	}
}

func TestP3_5LimitsListsPassAndGreaterCountsHaveNoLongerCodes(t *testing.T) {
	r := mixed(10)
	for range 200 {
		counts := steepCounts(r, 1+r.IntN(288))
		counts[r.IntN(len(counts))]++
		for _, most := range []int{9, 10, 15} {
			l := limited(t, counts, most)
			checks(t, l, api.OK)
			for i, a := range counts {
				for j, b := range counts {
					if b > 0 && a > b && l[i] > l[j] {
						t.Fatalf("count %d has length %d, count %d has %d", a, l[i], b, l[j])
					}
				}
			}
		}
	}
}

func TestR1NothingStandsBesideAnError(t *testing.T) {
	for _, l := range [][]int{nil, {16}, {1, 1, 1}, {2, 2}, {0}} {
		if c, e := huff.Codes(l); c != nil || e == api.OK {
			t.Errorf("Codes(%v) = %v, %d", l, c, e)
		}
	}
	if l, e := huff.Limit(same(3, 1), 1); l != nil || e == api.OK {
		t.Errorf("Limit = %v, %d", l, e)
	}
}

func TestR2ListsHandedInStayAsTheyAre(t *testing.T) {
	for _, l := range [][]int{{3, 3, 2, 1, 77, 78}, {9, 1, 4, 4, 77, 78}, {1, 1, 1, 1, 77, 78}, {2, 2, 2, 2, 77, 78}} {
		held := slices.Clone(l)
		huff.Check(l[:4])
		huff.Codes(l[:4])
		huff.New(l[:4])
		for most := range 5 {
			huff.Limit(l[:4], most)
		}
		if !slices.Equal(l, held) {
			t.Errorf("%v became %v", held, l)
		}
	}
}

func TestR2AnswersAreNewMemory(t *testing.T) {
	l := []int{2, 1, 3, 3}
	codes, others := codesOf(t, l), codesOf(t, l)
	codes[0] = 99
	if others[0] != 1 || l[0] != 2 || codesOf(t, l)[0] != 1 {
		t.Error("two answers of Codes share memory")
	}
	counts := []int{1, 1, 1, 1}
	first, second := limitOf(t, counts, 2), limitOf(t, counts, 2)
	first[0] = 99
	if second[0] != 2 || counts[0] != 1 || limitOf(t, counts, 2)[0] != 2 {
		t.Error("two answers of Limit share memory")
	}
}

func TestR2ListsAreNotKept(t *testing.T) {
	l := []int{2, 1, 3, 3}
	rows := slowRows(l)
	d := decoderOf(t, l)
	for i := range l {
		l[i] = 2
	}
	for symbol, row := range rows {
		if got, e := next(t, d, rows, readerOf(t, row)); got != symbol || e != api.OK {
			t.Errorf("code %s is read as %d, %d, want %d", row, got, e, symbol)
		}
	}
}

func TestR2DecodersKnowNothingOfOneAnother(t *testing.T) {
	one, two := decoderOf(t, []int{2, 1, 3, 3}), decoderOf(t, []int{2, 2, 2, 2})
	r, q := readerOf(t, "11000110"), readerOf(t, "11000110")
	for _, want := range [][2]int{{2, 3}, {1, 0}, {1, 1}} {
		if symbol, e := one.Next(r); symbol != want[0] || e != api.OK {
			t.Errorf("the first decoder: %d, %d, want %d", symbol, e, want[0])
		}
		if symbol, e := two.Next(q); symbol != want[1] || e != api.OK {
			t.Errorf("the second decoder: %d, %d, want %d", symbol, e, want[1])
		}
	}
}

func TestR3NilObjects(t *testing.T) {
	var none *huff.Decoder
	r := bits.NewReader([]byte{0x55})
	if symbol, e := none.Next(r); symbol != 0 || e != api.ErrNil || r.Gone() != 0 {
		t.Errorf("a nil decoder: %d, %d", symbol, e)
	}
	if symbol, e := none.Next(nil); symbol != 0 || e != api.ErrNil {
		t.Errorf("a nil decoder over a nil reader: %d, %d", symbol, e)
	}
	for _, l := range [][]int{{1}, {2, 1, 3, 3}, fixed()} {
		if symbol, e := decoderOf(t, l).Next(nil); symbol != 0 || e != api.ErrNil {
			t.Errorf("a nil reader: %d, %d", symbol, e)
		}
	}
}
