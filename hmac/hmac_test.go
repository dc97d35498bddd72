package hmac_test

import (
	"bytes"
	stdmac "crypto/hmac"
	"crypto/sha256"
	"encoding/hex"
	"math/rand/v2"
	"slices"
	"strings"
	"testing"

	"haversack/hmac"
)

// mixed tells numbers that look mixed and are the same in each run.
func mixed(seed uint64) *rand.Rand { return rand.New(rand.NewPCG(seed, 15)) }

func mixedBytes(r *rand.Rand, n int) []byte {
	out := make([]byte, n)
	for i := range out {
		out[i] = byte(r.UintN(256))
	}
	return out
}

// otherMac is HMAC by the library, which tests may use.
func otherMac(key, b []byte) [32]byte {
	m := stdmac.New(sha256.New, key)
	m.Write(b)
	return [32]byte(m.Sum(nil))
}

// wordsMac is HMAC by the words of the chapter, over the library's SHA-256.
func wordsMac(key, b []byte) [32]byte {
	if len(key) > 64 {
		d := sha256.Sum256(key)
		key = d[:]
	}
	var in, out []byte
	for i := range 64 {
		x := byte(0)
		if i < len(key) {
			x = key[i]
		}
		in, out = append(in, x^0x36), append(out, x^0x5c)
	}
	d := sha256.Sum256(append(in, b...))
	return sha256.Sum256(append(out, d[:]...))
}

func digestOf(t *testing.T, text string) [32]byte {
	t.Helper()
	b, err := hex.DecodeString(text)
	if err != nil || len(b) != 32 {
		t.Fatalf("%q is no digest", text)
	}
	return [32]byte(b)
}

func sums(t *testing.T, b []byte, want [32]byte) {
	t.Helper()
	if got := hmac.Sum(b); got != want {
		t.Errorf("Sum of %d bytes, %.20x: %x, not %x", len(b), b, got, want)
	}
}

func tells(t *testing.T, h *hmac.Hash, want [32]byte) {
	t.Helper()
	if got := h.Sum(); got != want {
		t.Errorf("Sum of a hash: %x, not %x", got, want)
	}
}

func macs(t *testing.T, key, b []byte, want [32]byte) {
	t.Helper()
	if got := hmac.Mac(key, b); got != want {
		t.Errorf("Mac of a key of %d bytes, %.20x, and %d bytes, %.20x: %x, not %x", len(key), key, len(b), b, got, want)
	}
}

func TestP15_1SumOfKnownBytes(t *testing.T) {
	for _, c := range []struct{ text, want string }{
		{"", "e3b0c44298fc1c149afbf4c8996fb92427ae41e4649b934ca495991b7852b855"},
		{"a", "ca978112ca1bbdcafac231b39a23dc4da786eff8147c4e72b9807785afee48bb"},
		{"abc", "ba7816bf8f01cfea414140de5dae2223b00361a396177a9cb410ff61f20015ad"},
		{"abcdbcdecdefdefgefghfghighijhijkijkljklmklmnlmnomnopnopq",
			"248d6a61d20638b8e5c026930c3e6039a33ce45964ff2167f6ecedd419db06c1"},
		{"abcdefghbcdefghicdefghijdefghijkefghijklfghijklmghijklmnhijklmnoijklmnopjklmnopqklmnopqrlmnopqrsmnopqrstnopqrstu",
			"cf5b16a778af8380036ce59e7b0492370b249b11e8f07a51afac45037afee9d1"},
		{strings.Repeat("a", 1000000), "cdc76e5c9914fb9281a1c7e284d73e67f1809a48a497200e046d39ccc7112cd0"},
	} {
		sums(t, []byte(c.text), digestOf(t, c.want))
	}
	sums(t, nil, hmac.Sum([]byte{}))
}

func TestP15_1SumOfEachLength(t *testing.T) {
	r := mixed(1)
	for n := range 600 {
		for _, b := range [][]byte{mixedBytes(r, n), make([]byte, n), bytes.Repeat([]byte{0xff}, n), bytes.Repeat([]byte{0x80}, n)} {
			sums(t, b, sha256.Sum256(b))
		}
	}
}

// What is hashed ends in a byte 80, noughts and a length: bytes that end so themselves are others.
func TestP15_1SumOfBytesThatLookLikeAnEnd(t *testing.T) {
	for n := range 130 {
		b := append(bytes.Repeat([]byte{'a'}, n), 0x80)
		for range 130 {
			sums(t, b, sha256.Sum256(b))
			b = append(b, 0)
		}
		b = append(b, 0, 0, 0, 0, 0, 0, byte(n>>5), byte(n<<3))
		sums(t, b, sha256.Sum256(b))
	}
}

func TestP15_1SumOfEachSingleBit(t *testing.T) {
	for _, n := range []int{1, 32, 55, 56, 63, 64, 65, 128} {
		seen := map[[32]byte]bool{}
		for i := range 8 * n {
			b := make([]byte, n)
			b[i/8] = 1 << (i % 8)
			sums(t, b, sha256.Sum256(b))
			seen[hmac.Sum(b)] = true
		}
		if len(seen) != 8*n {
			t.Errorf("of %d rows of bytes there are %d digests", 8*n, len(seen))
		}
	}
}

func TestP15_1SumOfManyBytes(t *testing.T) {
	r := mixed(2)
	for _, n := range []int{4095, 4096, 8191, 8192, 8193, 65535, 65536, 65537, 1 << 20, 1<<20 + 55, 1<<20 + 56} {
		b := mixedBytes(r, n)
		sums(t, b, sha256.Sum256(b))
	}
}

// From 536870912 bytes on the number of their bits takes more than 32 bits.
func TestP15_1TheNumberOfBitsMayTakeManyBytes(t *testing.T) {
	h, other := hmac.New(), sha256.New()
	b := mixedBytes(mixed(3), 1<<20)
	for range 1 << 9 {
		h.Write(b)
		other.Write(b)
	}
	tells(t, h, [32]byte(other.Sum(nil)))
	h.Write(b[:77])
	other.Write(b[:77])
	tells(t, h, [32]byte(other.Sum(nil)))
}

func TestP15_2HashOfTheExample(t *testing.T) {
	h := hmac.New()
	tells(t, h, digestOf(t, "e3b0c44298fc1c149afbf4c8996fb92427ae41e4649b934ca495991b7852b855"))
	h.Write([]byte("a"))
	tells(t, h, digestOf(t, "ca978112ca1bbdcafac231b39a23dc4da786eff8147c4e72b9807785afee48bb"))
	h.Write([]byte("bc"))
	tells(t, h, digestOf(t, "ba7816bf8f01cfea414140de5dae2223b00361a396177a9cb410ff61f20015ad"))
	tells(t, h, digestOf(t, "ba7816bf8f01cfea414140de5dae2223b00361a396177a9cb410ff61f20015ad"))
}

func TestP15_2NothingWrittenChangesNothing(t *testing.T) {
	h := hmac.New()
	for n := range 200 {
		want := h.Sum()
		h.Write(nil)
		h.Write([]byte{})
		tells(t, h, want)
		h.Write([]byte{byte(n)})
	}
}

func TestP15_2SumIsToldBehindEachByte(t *testing.T) {
	b := mixedBytes(mixed(4), 600)
	asked, silent := hmac.New(), hmac.New()
	for i := range b {
		tells(t, asked, sha256.Sum256(b[:i]))
		tells(t, asked, sha256.Sum256(b[:i]))
		asked.Write(b[i : i+1])
		silent.Write(b[i : i+1])
	}
	tells(t, asked, sha256.Sum256(b))
	tells(t, silent, sha256.Sum256(b))
}

func TestP15_2HashesAreApart(t *testing.T) {
	g, h := hmac.New(), hmac.New()
	if g == h {
		t.Fatal("New gave one hash twice")
	}
	for i := range 150 {
		g.Write([]byte{byte(i)})
		tells(t, h, sha256.Sum256(bytes.Repeat([]byte{7}, i)))
		h.Write([]byte{7})
		tells(t, hmac.New(), sha256.Sum256(nil))
	}
	hmac.Sum([]byte("abc"))
	hmac.Mac([]byte("abc"), []byte("abc"))
	tells(t, h, sha256.Sum256(bytes.Repeat([]byte{7}, 150)))
}

func TestP15_3MacOfKnownBytes(t *testing.T) {
	rising := make([]byte, 25)
	for i := range rising {
		rising[i] = byte(i + 1)
	}
	long := bytes.Repeat([]byte{0xaa}, 131)
	for _, c := range []struct {
		key, b []byte
		want   string
	}{
		{bytes.Repeat([]byte{0x0b}, 20), []byte("Hi There"),
			"b0344c61d8db38535ca8afceaf0bf12b881dc200c9833da726e9376c2e32cff7"},
		{[]byte("Jefe"), []byte("what do ya want for nothing?"),
			"5bdcc146bf60754e6a042426089575c75a003f089d2739839dec58b964ec3843"},
		{bytes.Repeat([]byte{0xaa}, 20), bytes.Repeat([]byte{0xdd}, 50),
			"773ea91e36800e46854db8ebd09181a72959098b3ef8c122d9635514ced565fe"},
		{rising, bytes.Repeat([]byte{0xcd}, 50),
			"82558a389a443c0ea4cc819899f2083a85f0faa3e578f8077a2e3ff46729665b"},
		{long, []byte("Test Using Larger Than Block-Size Key - Hash Key First"),
			"60e431591ee0b67f0d8a26aacbf5b77f8e0bc6213728c5140546040f0ee37f54"},
		{long, []byte("This is a test using a larger than block-size key and a larger than block-size data. " +
			"The key needs to be hashed before being used by the HMAC algorithm."),
			"9b09ffa71b942fcb27635fbcd5b0e944bfdc63644f0713938a7f51535c3a35e2"},
		{nil, nil, "b613679a0814d9ec772f95d778c35fc5ff1697c493715653c6c712144292c5ad"},
	} {
		macs(t, c.key, c.b, digestOf(t, c.want))
	}
	macs(t, []byte{}, []byte{}, hmac.Mac(nil, nil))
}

func TestP15_3MacOfKeysOfEachLength(t *testing.T) {
	r := mixed(5)
	for n := range 200 {
		key, b := mixedBytes(r, n), mixedBytes(r, r.IntN(300))
		macs(t, key, b, otherMac(key, b))
		macs(t, key, b, wordsMac(key, b))
		macs(t, key, nil, otherMac(key, nil))
		macs(t, b, key, otherMac(b, key))
	}
}

func TestP15_3MacOfALongKeyIsThatOfItsDigest(t *testing.T) {
	r := mixed(6)
	for n := range 200 {
		key := mixedBytes(r, n)
		d := hmac.Sum(key)
		if same := hmac.Mac(key, []byte("x")) == hmac.Mac(d[:], []byte("x")); same != (n > 64) {
			t.Errorf("a key of %d bytes and its digest: one mac %v", n, same)
		}
	}
}

func TestP15_3MacOfManyBytes(t *testing.T) {
	r := mixed(7)
	for _, n := range []int{8192, 65535, 65536, 65537, 300000} {
		key, b := mixedBytes(r, 32), mixedBytes(r, n)
		macs(t, key, b, otherMac(key, b))
		macs(t, b, key, otherMac(b, key))
	}
}

func TestP15_4Same(t *testing.T) {
	a := hmac.Sum([]byte("abc"))
	b := a
	if !hmac.Same(a, b) || !hmac.Same([32]byte{}, [32]byte{}) {
		t.Error("Same tells like digests apart")
	}
	for i := range 256 {
		b = a
		b[i/8] ^= 1 << (i % 8)
		if hmac.Same(a, b) || hmac.Same(b, a) {
			t.Errorf("Same does not tell digests apart by their bit %d", i)
		}
	}
	// Differences that add up to nought, and bytes that are the same in another order.
	b = a
	b[0], b[31] = b[0]+1, b[31]-1
	if hmac.Same(a, b) {
		t.Error("Same adds bytes up")
	}
	b = a
	b[3], b[4] = b[4], b[3]
	if hmac.Same(a, b) {
		t.Error("Same takes bytes in any order")
	}
	for i := range b {
		b[i] = ^a[i]
	}
	if hmac.Same(a, b) {
		t.Error("Same of a digest and its complement")
	}
}

func TestR3NilHash(t *testing.T) {
	var h *hmac.Hash
	tells(t, h, [32]byte{})
	h.Write(nil)
	h.Write([]byte("abc"))
	tells(t, h, [32]byte{})
	if h != nil {
		t.Error("a nil hash became one")
	}
}

func TestP15_5BytesInTwoAndThreeParts(t *testing.T) {
	b := mixedBytes(mixed(8), 200)
	for n := range b {
		want := sha256.Sum256(b[:n])
		for i := range n + 1 {
			h := hmac.New()
			h.Write(b[:i])
			h.Write(b[i:n])
			tells(t, h, want)
			h = hmac.New()
			h.Write(b[:i/2])
			h.Sum()
			h.Write(b[i/2 : i])
			h.Write(b[i:n])
			tells(t, h, want)
		}
	}
}

func TestP15_5BytesInMixedParts(t *testing.T) {
	r := mixed(9)
	for range 300 {
		b := mixedBytes(r, r.IntN(5000))
		h, most := hmac.New(), 1+r.IntN(300)
		for at := 0; at < len(b); {
			n := min(r.IntN(most+1), len(b)-at)
			h.Write(b[at : at+n])
			at += n
			if r.IntN(4) == 0 {
				tells(t, h, sha256.Sum256(b[:at]))
			}
		}
		tells(t, h, hmac.Sum(b))
		tells(t, h, sha256.Sum256(b))
	}
}

func TestP15_5BytesInPartsOfOneLength(t *testing.T) {
	b := mixedBytes(mixed(10), 1000)
	for n := 1; n <= 300; n++ {
		h := hmac.New()
		for part := range slices.Chunk(b, n) {
			h.Write(part)
		}
		tells(t, h, sha256.Sum256(b))
	}
}

func TestP15_5KeysWithNoughtsBehind(t *testing.T) {
	r := mixed(11)
	for n := range 65 {
		key := mixedBytes(r, n)
		want := hmac.Mac(key, []byte("text"))
		longer := bytes.Clone(key)
		for len(longer) < 64 {
			longer = append(longer, 0)
			macs(t, longer, []byte("text"), want)
		}
		if hmac.Mac(append(longer, 0), []byte("text")) == want {
			t.Errorf("a key of %d bytes and that with noughts up to 65 have one mac", n)
		}
		if n > 0 && n < 64 && hmac.Mac(append([]byte{0}, key...), []byte("text")) == want {
			t.Errorf("a key of %d bytes and that with a nought ahead have one mac", n)
		}
	}
}

// A Hash keeps what was written, not where it stood; nothing is written into what is handed in, nor behind it.
func TestR2ListsHandedInStayAsTheyAre(t *testing.T) {
	r := mixed(12)
	for _, n := range []int{0, 1, 31, 55, 56, 63, 64, 65, 100, 128, 200} {
		room := mixedBytes(r, n+200)
		b, key := room[:n], room[:n/2]
		was := bytes.Clone(room)
		h := hmac.New()
		h.Write(b)
		hmac.Sum(b)
		hmac.Mac(key, b)
		hmac.Mac(b, key)
		h.Sum()
		if !bytes.Equal(room, was) {
			t.Errorf("%d bytes that were handed in, or their spare room, are written into", n)
		}
		clear(room)
		tells(t, h, sha256.Sum256(was[:n]))
	}
}

func TestR2DigestsAreNewMemory(t *testing.T) {
	h := hmac.New()
	h.Write([]byte("abc"))
	d := h.Sum()
	clear(d[:])
	tells(t, h, sha256.Sum256([]byte("abc")))
	d = hmac.Sum([]byte("abc"))
	clear(d[:])
	sums(t, []byte("abc"), sha256.Sum256([]byte("abc")))
}
