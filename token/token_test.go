package token_test

import (
	stdmac "crypto/hmac"
	"crypto/sha256"
	"encoding/hex"
	"fmt"
	"math"
	"math/rand/v2"
	"regexp"
	"slices"
	"strconv"
	"strings"
	"testing"

	"haversack/api"
	"haversack/token"
)

const most = 1000000000

// mixed tells numbers that look mixed and are the same in each run.
func mixed(seed uint64) *rand.Rand { return rand.New(rand.NewPCG(seed, 16)) }

func claim(tenant string, until, serial int) api.Claim {
	return api.Claim{Tenant: tenant, Until: until, Serial: serial}
}

// otherText is a token's text by the library's HMAC, which tests may use.
func otherText(c api.Claim, secret string) string {
	body := fmt.Sprintf("%s.%d.%d", c.Tenant, c.Until, c.Serial)
	m := stdmac.New(sha256.New, []byte(secret))
	m.Write([]byte(body))
	return body + "." + hex.EncodeToString(m.Sum(nil))
}

var form = regexp.MustCompile(`^([a-z0-9-]{1,16})\.(0|[1-9][0-9]{0,9})\.([1-9][0-9]{0,9})\.([0-9a-f]{64})$`)

// otherParse reads a text by a pattern.
func otherParse(text string) (api.Claim, string, api.Errno) {
	l := form.FindStringSubmatch(text)
	if l == nil {
		return api.Claim{}, "", api.ErrTokenForm
	}
	until, _ := strconv.Atoi(l[2])
	serial, _ := strconv.Atoi(l[3])
	if until > most || serial > most {
		return api.Claim{}, "", api.ErrTokenForm
	}
	return claim(l[1], until, serial), l[4], api.OK
}

func printed(t *testing.T, c api.Claim, secret string) string {
	t.Helper()
	text, e := token.Print(c, secret)
	if e != api.OK {
		t.Fatalf("Print(%v, %q): %d", c, secret, e)
	}
	return text
}

func prints(t *testing.T, c api.Claim, secret, want string, e api.Errno) {
	t.Helper()
	if got, f := token.Print(c, secret); got != want || f != e {
		t.Errorf("Print(%+v, a secret of %d bytes): %q, %d; not %q, %d", c, len(secret), got, f, want, e)
	}
}

func parses(t *testing.T, text string, c api.Claim, digits string, e api.Errno) {
	t.Helper()
	if d, m, f := token.Parse(text); d != c || m != digits || f != e {
		t.Errorf("Parse(%.120q): %+v, %q, %d; not %+v, %q, %d", text, d, m, f, c, digits, e)
	}
}

func parsesAsOther(t *testing.T, text string) {
	t.Helper()
	c, m, e := otherParse(text)
	parses(t, text, c, m, e)
}

func isNoToken(t *testing.T, text string) {
	t.Helper()
	parses(t, text, api.Claim{}, "", api.ErrTokenForm)
}

func made(t *testing.T, l ...api.Tenant) *token.Book {
	t.Helper()
	b, e := token.New(l)
	if b == nil || e != api.OK {
		t.Fatalf("New(%d tenants): %d", len(l), e)
	}
	return b
}

func isNoBook(t *testing.T, e api.Errno, l ...api.Tenant) {
	t.Helper()
	if b, f := token.New(l); b != nil || f != e {
		t.Errorf("New(%+v): a book %v, %d; not %d", l, b != nil, f, e)
	}
}

// some is a book of the tenants a, b and c-0, which has no secret.
func some(t *testing.T) *token.Book {
	t.Helper()
	return made(t, api.Tenant{Name: "a", Secret: "k", Bytes: 10, Entries: 1}, api.Tenant{Name: "b", Secret: "other"}, api.Tenant{Name: "c-0"})
}

func issued(t *testing.T, b *token.Book, tenant string, until int) string {
	t.Helper()
	text, e := b.Issue(tenant, until)
	if e != api.OK {
		t.Fatalf("Issue(%q, %d): %d", tenant, until, e)
	}
	return text
}

func issues(t *testing.T, b *token.Book, tenant string, until int, want string, e api.Errno) {
	t.Helper()
	if got, f := b.Issue(tenant, until); got != want || f != e {
		t.Errorf("Issue(%q, %d): %q, %d; not %q, %d", tenant, until, got, f, want, e)
	}
}

func takes(t *testing.T, b *token.Book, text string, now int, c api.Claim) {
	t.Helper()
	if d, e := b.Check(text, now); d != c || e != api.OK {
		t.Errorf("Check(%q, %d): %+v, %d; not %+v", text, now, d, e, c)
	}
}

func refuses(t *testing.T, b *token.Book, text string, now int, e api.Errno) {
	t.Helper()
	if c, f := b.Check(text, now); c != (api.Claim{}) || f != e {
		t.Errorf("Check(%.120q, %d): %+v, %d; not %d", text, now, c, f, e)
	}
}

func revokes(t *testing.T, b *token.Book, serial int, e api.Errno) {
	t.Helper()
	if f := b.Revoke(serial); f != e {
		t.Errorf("Revoke(%d): %d, not %d", serial, f, e)
	}
}

// digits are 64 that hang on nothing.
var digits = strings.Repeat("0123456789abcdef", 4)

func TestP16_1PrintOfTheExample(t *testing.T) {
	prints(t, claim("a", 5, 1), "k", "a.5.1.541d14b7017a0413fd9d08cf41dae46e490d8d02103515e2f4fd132a83dd016a", api.OK)
}

func TestP16_1PrintOfEdges(t *testing.T) {
	for _, tenant := range []string{"a", "-", "0", "abcdefghijklmnop", "qrstuvwxyz-01234", "56789"} {
		for _, until := range []int{0, 1, 9, 10, 99, 100, 999999999, most} {
			for _, serial := range []int{1, 9, 10, 100, 999999999, most} {
				for _, n := range []int{0, 1, 63, 64} {
					c, secret := claim(tenant, until, serial), strings.Repeat("k", n)
					prints(t, c, secret, otherText(c, secret), api.OK)
				}
			}
		}
	}
}

func TestP16_1SecretsMayBeAnyBytes(t *testing.T) {
	r := mixed(1)
	for n := range 65 {
		b := make([]byte, n)
		for i := range b {
			b[i] = byte(r.UintN(256))
		}
		c := claim("t", r.IntN(most+1), 1+r.IntN(most))
		prints(t, c, string(b), otherText(c, string(b)), api.OK)
	}
	for n := range 256 {
		c, secret := claim("t", n, 1+n), string([]byte{byte(n)})
		prints(t, c, secret, otherText(c, secret), api.OK)
	}
	prints(t, claim("t", 1, 2), ".\n\x00é", otherText(claim("t", 1, 2), ".\n\x00é"), api.OK)
}

func TestP16_1WhatMayNotBeIsNotPrinted(t *testing.T) {
	for _, c := range []api.Claim{
		{}, claim("", 5, 1), claim("A", 5, 1), claim("a.b", 5, 1), claim("a_b", 5, 1), claim("a/b", 5, 1), claim("a b", 5, 1),
		claim("é", 5, 1), claim("a\n", 5, 1), claim("\x00", 5, 1), claim(strings.Repeat("a", 17), 5, 1), claim(strings.Repeat("a", 1<<20), 5, 1),
		claim("a", -1, 1), claim("a", most+1, 1), claim("a", math.MinInt, 1), claim("a", math.MaxInt, 1), claim("a", 1<<32, 1),
		claim("a", 5, 0), claim("a", 5, -1), claim("a", 5, most+1), claim("a", 5, math.MinInt), claim("a", 5, math.MaxInt), claim("a", 5, 1<<32+1),
	} {
		prints(t, c, "k", "", api.ErrArg)
		prints(t, c, strings.Repeat("k", 65), "", api.ErrArg)
	}
	for _, n := range []int{65, 66, 128, 1 << 20} {
		prints(t, claim("a", 5, 1), strings.Repeat("k", n), "", api.ErrArg)
	}
}

func TestP16_2ParseOfTheExample(t *testing.T) {
	parses(t, "a.5.1."+digits, claim("a", 5, 1), digits, api.OK)
	for _, text := range []string{"a.05.1." + digits, "a.5.0." + digits, "a.5.1"} {
		isNoToken(t, text)
	}
}

func TestP16_2ParseOfEdges(t *testing.T) {
	for _, mac := range []string{digits, strings.Repeat("0", 64), strings.Repeat("f", 64)} {
		parses(t, "a.0.1."+mac, claim("a", 0, 1), mac, api.OK)
		parses(t, "-.1000000000.1000000000."+mac, claim("-", most, most), mac, api.OK)
		parses(t, "abcdefghijklmnop.999999999.10."+mac, claim("abcdefghijklmnop", 999999999, 10), mac, api.OK)
		parses(t, "0.0.1."+mac, claim("0", 0, 1), mac, api.OK)
	}
}

// Numbers in all forms that are none, in both places.
func TestP16_2Numbers(t *testing.T) {
	for _, n := range []string{
		"", "00", "01", "05", "+5", "-5", "-0", "+0", " 5", "5 ", "5\n", "5_0", "0x5", "0b1", "5e1", "1e9", "5,0", "５", "٥", "a", "f", "\x00", "\x005",
		"1000000001", "1000000010", "9999999999", "10000000000", "01000000000", "2147483648", "4294967296", "4294967301",
		"9223372036854775807", "9223372036854775808", "18446744073709551616", "18446744073709551621", "99999999999999999999", strings.Repeat("9", 80),
		strings.Repeat("0", 100), "-9223372036854775808", "-1", "--1", "1-",
	} {
		isNoToken(t, "a."+n+".1."+digits)
		isNoToken(t, "a.5."+n+"."+digits)
	}
	isNoToken(t, "a.5.0."+digits)
	for n := range 2000 {
		parsesAsOther(t, fmt.Sprintf("a.%d.%d.%s", n, n, digits))
		parsesAsOther(t, fmt.Sprintf("a.0%d.1.%s", n, digits))
		parsesAsOther(t, fmt.Sprintf("a.1.0%d.%s", n, digits))
		parsesAsOther(t, fmt.Sprintf("a.%d.1.%s", most-1000+n, digits))
		parsesAsOther(t, fmt.Sprintf("a.1.%d.%s", most-1000+n, digits))
	}
}

func TestP16_2Tenants(t *testing.T) {
	for n := range 40 {
		parsesAsOther(t, strings.Repeat("z", n)+".5.1."+digits)
	}
	for n := range 256 {
		b := string([]byte{byte(n)})
		for _, name := range []string{b, "a" + b, b + "a", "a" + b + "a"} {
			parsesAsOther(t, name+".5.1."+digits)
		}
	}
	for _, name := range []string{"", "A", "a_b", "a/b", "é", " ", "."} {
		isNoToken(t, name+".5.1."+digits)
	}
}

func TestP16_2Digits(t *testing.T) {
	for n := range 140 {
		parsesAsOther(t, "a.5.1."+strings.Repeat("7", n))
	}
	for n := range 256 {
		b := string([]byte{byte(n)})
		for at := range 64 {
			parsesAsOther(t, "a.5.1."+digits[:at]+b+digits[at+1:])
		}
	}
	for _, mac := range []string{strings.ToUpper(digits), digits[1:] + "g", digits + "0", digits[1:], digits + ".", "." + digits, digits[:32] + "." + digits[32:], "0x" + digits[2:], digits[:63] + "\n", digits + "\n", strings.Repeat("é", 32)} {
		isNoToken(t, "a.5.1."+mac)
	}
}

func TestP16_2PartsThatLackOrAreTooMany(t *testing.T) {
	for _, text := range []string{
		"", ".", "..", "...", "....", "a", "a.5", "a.5.1", "a.5.1.", "a.5." + digits, "a.1." + digits, digits, "." + digits, "..." + digits, "5.1." + digits,
		".5.1." + digits, "a..1." + digits, "a.5.." + digits, "a.5.1.." + digits, "a.5.1.1." + digits, "a.a.5.1." + digits, ".a.5.1." + digits,
		"a.5.1." + digits + ".", "a.5.1." + digits + "." + digits, "a.5.1" + digits, "a,5,1," + digits, "a 5 1 " + digits,
		" a.5.1." + digits, "a.5.1." + digits + " ", "a .5.1." + digits, "a.5.1. " + digits, "\n", "\x00",
	} {
		isNoToken(t, text)
	}
}

func TestP16_2LongTexts(t *testing.T) {
	for _, n := range []int{255, 256, 257, 300, 1 << 20} {
		for _, b := range []string{"a", ".", "0", "\x00", "\xff"} {
			isNoToken(t, strings.Repeat(b, n))
			isNoToken(t, strings.Repeat(b, n)+"a.5.1."+digits)
			isNoToken(t, "a.5.1."+digits+strings.Repeat(b, n))
		}
		isNoToken(t, "a."+strings.Repeat("0", n)+"5.1."+digits)
	}
}

// edits tells a text with each byte taken out, changed to each other one, or with each one put in.
func edits(text string, tell func(string)) {
	for at := range len(text) + 1 {
		for n := range 256 {
			b := string([]byte{byte(n)})
			tell(text[:at] + b + text[at:])
			if at < len(text) && b != text[at:at+1] {
				tell(text[:at] + b + text[at+1:])
			}
		}
		if at < len(text) {
			tell(text[:at] + text[at+1:])
			tell(text[:at])
			tell(text[at+1:])
		}
	}
}

func TestP16_2TextsThatDifferByAByte(t *testing.T) {
	for _, body := range []string{"a.5.1", "ab-9.10.20", "abcdefghijklmnop.1000000000.1000000000", "0.0.1"} {
		edits(body+"."+digits, func(text string) { parsesAsOther(t, text) })
	}
}

func TestP16_2MixedTexts(t *testing.T) {
	r := mixed(2)
	part := func() string {
		l := []string{"a", "0", "1", "5", "01", "a-b", "", ".", "1000000000", "1000000001", digits, digits[1:], strings.ToUpper(digits), strconv.Itoa(r.IntN(2 * most)), "é"}
		return l[r.IntN(len(l))]
	}
	for range 100000 {
		var l []string
		for range 3 + r.IntN(3) {
			l = append(l, part())
		}
		if r.IntN(2) == 0 {
			l[len(l)-1] = digits
		}
		parsesAsOther(t, strings.Join(l, "."))
	}
}

func TestP16_3Books(t *testing.T) {
	made(t)
	made(t, []api.Tenant{}...)
	var l []api.Tenant
	for i := range 8 {
		l = append(l, api.Tenant{Name: "t" + strconv.Itoa(i), Secret: strings.Repeat("s", 8*i), Bytes: most, Entries: most})
		made(t, l...)
	}
	b := made(t, l...)
	for i, x := range l {
		text := issued(t, b, x.Name, 7)
		if want := otherText(claim(x.Name, 7, i+1), x.Secret); text != want {
			t.Errorf("of the tenant %q: %q, not %q", x.Name, text, want)
		}
	}
	issues(t, b, "t8", 7, "", api.ErrQuotaTenant)
	made(t, api.Tenant{Name: "abcdefghijklmnop", Secret: strings.Repeat("k", 64), Bytes: most, Entries: most})
	made(t, api.Tenant{Name: "-"}, api.Tenant{Name: "--"}, api.Tenant{Name: "0", Secret: "\x00"})
}

func TestP16_3TooManyTenants(t *testing.T) {
	var l []api.Tenant
	for i := range 9 {
		l = append(l, api.Tenant{Name: "t" + strconv.Itoa(i)})
	}
	isNoBook(t, api.ErrLong, l...)
	// That there are too many is told ahead of what is wrong with one of them.
	for i := range l {
		m := slices.Clone(l)
		m[i].Bytes = -1
		isNoBook(t, api.ErrLong, m...)
	}
	isNoBook(t, api.ErrLong, make([]api.Tenant, 9)...)
	isNoBook(t, api.ErrLong, make([]api.Tenant, 100000)...)
}

func TestP16_3TenantsThatMayNotBe(t *testing.T) {
	good := api.Tenant{Name: "g", Secret: "k", Bytes: 1, Entries: 1}
	for _, bad := range []api.Tenant{
		{}, {Name: ""}, {Name: "A"}, {Name: "a.b"}, {Name: "a_b"}, {Name: "a/b"}, {Name: " a"}, {Name: "é"}, {Name: strings.Repeat("a", 17)},
		{Name: "a", Secret: strings.Repeat("k", 65)}, {Name: "a", Secret: strings.Repeat("k", 1<<20)},
		{Name: "a", Bytes: -1}, {Name: "a", Bytes: most + 1}, {Name: "a", Bytes: math.MinInt}, {Name: "a", Bytes: math.MaxInt},
		{Name: "a", Entries: -1}, {Name: "a", Entries: most + 1}, {Name: "a", Entries: math.MinInt}, {Name: "a", Entries: math.MaxInt},
		{Name: "g"}, {Name: "g", Secret: "k", Bytes: 1, Entries: 1}, {Name: "g", Secret: "other"},
	} {
		isNoBook(t, api.ErrArg, good, bad)
		isNoBook(t, api.ErrArg, bad, good)
		isNoBook(t, api.ErrArg, good, api.Tenant{Name: "h"}, bad, api.Tenant{Name: "i"})
		if bad.Name != "g" {
			isNoBook(t, api.ErrArg, bad)
		}
	}
	eight := make([]api.Tenant, 8)
	isNoBook(t, api.ErrArg, eight...)
	for i := range eight {
		eight[i].Name = string(rune('a' + i))
	}
	eight[7].Name = "a"
	isNoBook(t, api.ErrArg, eight...)
	eight[7].Name = "h"
	made(t, eight...)
}

// A book keeps what the tenants were, not the list.
func TestR2TheListOfTenantsIsNotKept(t *testing.T) {
	room := []api.Tenant{{Name: "a", Secret: "k"}, {Name: "b", Secret: "other"}, {Name: "spare", Secret: "s", Bytes: 3}}
	was := slices.Clone(room)
	b := made(t, room[:2]...)
	issued(t, b, "a", 1)
	if !slices.Equal(room, was) {
		t.Errorf("the list that was handed in is %+v", room)
	}
	clear(room)
	issues(t, b, "b", 9, otherText(claim("b", 9, 2), "other"), api.OK)
	issues(t, b, "spare", 9, "", api.ErrQuotaTenant)
}

func TestP16_4IssueOfTheExample(t *testing.T) {
	b := made(t, api.Tenant{Name: "a", Secret: "k"})
	issues(t, b, "a", 9, otherText(claim("a", 9, 1), "k"), api.OK)
	issues(t, b, "b", 9, "", api.ErrQuotaTenant)
	issues(t, b, "a", -1, "", api.ErrArg)
	issues(t, b, "a", 9, otherText(claim("a", 9, 2), "k"), api.OK)
}

// The numbers are a book's, whichever tenant a token is for.
func TestP16_4NumbersInARow(t *testing.T) {
	b, other := some(t), some(t)
	secrets := map[string]string{"a": "k", "b": "other", "c-0": ""}
	r := mixed(3)
	for n := 1; n <= 3000; n++ {
		tenant, until := []string{"a", "b", "c-0"}[r.IntN(3)], r.IntN(most+1)
		issues(t, b, tenant, until, otherText(claim(tenant, until, n), secrets[tenant]), api.OK)
		switch r.IntN(6) {
		case 0:
			issues(t, b, "d", until, "", api.ErrQuotaTenant)
		case 1:
			issues(t, b, "a", most+1+r.IntN(5), "", api.ErrArg)
		case 2:
			revokes(t, b, n+r.IntN(3), api.OK)
		case 3:
			printed(t, claim("a", 5, n+1), "k")
		}
	}
	issues(t, other, "a", 0, otherText(claim("a", 0, 1), "k"), api.OK)
}

func TestP16_4EdgesAndWhatIsRefused(t *testing.T) {
	b := some(t)
	for _, tenant := range []string{"", "d", "A", "a.b", "a ", "c", "c-", "c-00", "aa", strings.Repeat("a", 17), strings.Repeat("a", 1<<20)} {
		for _, until := range []int{0, 9, -1, most + 1, math.MinInt, math.MaxInt} {
			issues(t, b, tenant, until, "", api.ErrQuotaTenant)
		}
	}
	for _, until := range []int{-1, -2, most + 1, 1 << 32, math.MinInt, math.MaxInt} {
		issues(t, b, "a", until, "", api.ErrArg)
	}
	issues(t, b, "a", 0, otherText(claim("a", 0, 1), "k"), api.OK)
	issues(t, b, "c-0", most, otherText(claim("c-0", most, 2), ""), api.OK)
	issues(t, made(t), "a", 0, "", api.ErrQuotaTenant)
}

func TestP16_5CheckOfTheExample(t *testing.T) {
	b := made(t, api.Tenant{Name: "a", Secret: "k"})
	text := issued(t, b, "a", 9)
	takes(t, b, text, 9, claim("a", 9, 1))
	refuses(t, b, text, 10, api.ErrTokenOld)
	another := "0"
	if strings.HasSuffix(text, another) {
		another = "1"
	}
	refuses(t, b, text[:len(text)-1]+another, 9, api.ErrTokenMac)
	revokes(t, b, 1, api.OK)
	refuses(t, b, text, 9, api.ErrTokenRevoked)
}

func TestP16_5Times(t *testing.T) {
	b := some(t)
	for _, until := range []int{0, 1, 9, 999999999, most} {
		text := issued(t, b, "a", until)
		c, _, _ := token.Parse(text)
		for _, now := range []int{math.MinInt, -most, -1, 0, until - 1, until} {
			if now <= until {
				takes(t, b, text, now, c)
			}
		}
		for _, now := range []int{until + 1, until + 2, most + 1, math.MaxInt} {
			refuses(t, b, text, now, api.ErrTokenOld)
		}
	}
}

func TestP16_5WhatWasNotIssuedButHasTheRightDigits(t *testing.T) {
	b := some(t)
	takes(t, b, printed(t, claim("a", 99, 7), "k"), 99, claim("a", 99, 7))
	takes(t, b, printed(t, claim("b", 0, most), "other"), 0, claim("b", 0, most))
	takes(t, b, printed(t, claim("c-0", most, 1), ""), most, claim("c-0", most, 1))
	// Two books of one secret take each other's.
	takes(t, some(t), issued(t, b, "b", 5), 5, claim("b", 5, 1))
}

func TestP16_5OtherSecretsAndTenants(t *testing.T) {
	b := some(t)
	for _, secret := range []string{"", "K", "kk", "k ", "other", strings.Repeat("k", 64)} {
		refuses(t, b, printed(t, claim("a", 9, 1), secret), 9, api.ErrTokenMac)
	}
	for _, secret := range []string{"", "k", "other"} {
		for _, tenant := range []string{"d", "aa", "c", "c-00", "-"} {
			refuses(t, b, printed(t, claim(tenant, 9, 1), secret), 9, api.ErrTokenMac)
		}
	}
	refuses(t, made(t), printed(t, claim("a", 9, 1), ""), 9, api.ErrTokenMac)
	for _, mac := range []string{digits, strings.Repeat("0", 64), strings.Repeat("f", 64)} {
		refuses(t, b, "a.9.1."+mac, 9, api.ErrTokenMac)
		refuses(t, b, "d.9.1."+mac, 9, api.ErrTokenMac)
	}
}

// Of several errors: the form, the digits, the time, what was revoked.
func TestP16_5TheFirstErrorIsTold(t *testing.T) {
	b := some(t)
	text := issued(t, b, "a", 9)
	revokes(t, b, 1, api.OK)
	revokes(t, b, 7, api.OK)
	for _, now := range []int{9, 10, math.MaxInt, math.MinInt} {
		refuses(t, b, text+"0", now, api.ErrTokenForm)
		refuses(t, b, "A"+text[1:], now, api.ErrTokenForm)
		refuses(t, b, "", now, api.ErrTokenForm)
		refuses(t, b, strings.Repeat("a", 257), now, api.ErrTokenForm)
		refuses(t, b, "a.9.1."+digits, now, api.ErrTokenMac)
		refuses(t, b, "d.9.1."+digits, now, api.ErrTokenMac)
	}
	refuses(t, b, text, 10, api.ErrTokenOld)
	refuses(t, b, text, 9, api.ErrTokenRevoked)
	refuses(t, b, printed(t, claim("b", 9, 7), "other"), 10, api.ErrTokenOld)
	refuses(t, b, printed(t, claim("b", 9, 7), "other"), 9, api.ErrTokenRevoked)
}

func TestP16_5CheckChangesNothing(t *testing.T) {
	b := some(t)
	text := issued(t, b, "a", 9)
	for range 3 {
		refuses(t, b, text, 10, api.ErrTokenOld)
		refuses(t, b, text+"0", 10, api.ErrTokenForm)
		refuses(t, b, "b"+text[1:], 10, api.ErrTokenMac)
		takes(t, b, text, 9, claim("a", 9, 1))
		takes(t, b, text, 0, claim("a", 9, 1))
	}
	issues(t, b, "a", 9, otherText(claim("a", 9, 2), "k"), api.OK)
}

func TestP16_6Revoke(t *testing.T) {
	b := some(t)
	for _, n := range []int{0, -1, most + 1, math.MinInt, math.MaxInt, 1 << 32} {
		revokes(t, b, n, api.ErrArg)
	}
	first, second := issued(t, b, "a", 9), issued(t, b, "b", 9)
	takes(t, b, first, 9, claim("a", 9, 1))
	revokes(t, b, 1, api.OK)
	refuses(t, b, first, 9, api.ErrTokenRevoked)
	takes(t, b, second, 9, claim("b", 9, 2))
	revokes(t, b, 1, api.OK)
	refuses(t, b, first, 9, api.ErrTokenRevoked)
	revokes(t, b, most, api.OK)
	refuses(t, b, printed(t, claim("a", 9, most), "k"), 9, api.ErrTokenRevoked)
	takes(t, b, printed(t, claim("a", 9, most-1), "k"), 9, claim("a", 9, most-1))
}

// A number is revoked for all tenants, and ahead of being issued.
func TestP16_6RevokeOfWhatWasNotIssued(t *testing.T) {
	b := some(t)
	revokes(t, b, 2, api.OK)
	takes(t, b, issued(t, b, "a", 9), 9, claim("a", 9, 1))
	second := issued(t, b, "a", 9)
	if second != otherText(claim("a", 9, 2), "k") {
		t.Errorf("the second token is %q", second)
	}
	refuses(t, b, second, 9, api.ErrTokenRevoked)
	refuses(t, b, printed(t, claim("b", 5, 2), "other"), 5, api.ErrTokenRevoked)
	takes(t, b, issued(t, b, "b", 9), 9, claim("b", 9, 3))
}

func TestR2BooksAreApart(t *testing.T) {
	b, other := some(t), some(t)
	if b == other {
		t.Fatal("New gave one book twice")
	}
	text := issued(t, b, "a", 9)
	revokes(t, b, 1, api.OK)
	refuses(t, b, text, 9, api.ErrTokenRevoked)
	takes(t, other, text, 9, claim("a", 9, 1))
	takes(t, some(t), text, 9, claim("a", 9, 1))
	if got := issued(t, other, "a", 9); got != text {
		t.Errorf("the first token of another book: %q", got)
	}
}

func TestP16_7WhatIsPrintedIsParsed(t *testing.T) {
	r := mixed(4)
	letters := "abcdefghijklmnopqrstuvwxyz0123456789-"
	for range 3000 {
		var name []byte
		for range 1 + r.IntN(16) {
			name = append(name, letters[r.IntN(len(letters))])
		}
		c := claim(string(name), r.IntN(1+most/(1<<r.IntN(30))), 1+r.IntN(1+(most-1)/(1<<r.IntN(30))))
		text := printed(t, c, "secret")
		parses(t, text, c, text[len(text)-64:], api.OK)
	}
}

// T5: all texts near one that was issued are refused, none of them because of its time.
func TestP16_7NearTextsAreRefused(t *testing.T) {
	b := some(t)
	for _, text := range []string{issued(t, b, "a", 55), issued(t, b, "b", 0), issued(t, b, "c-0", most)} {
		edits(text, func(near string) {
			if near == text {
				return
			}
			want := api.ErrTokenMac
			if _, _, e := otherParse(near); e != api.OK {
				want = e
			}
			refuses(t, b, near, -1, want)
		})
		takes(t, b, text, -1, mustParse(t, text))
	}
}

func mustParse(t *testing.T, text string) api.Claim {
	t.Helper()
	c, _, e := token.Parse(text)
	if e != api.OK {
		t.Fatalf("Parse(%q): %d", text, e)
	}
	return c
}

// T5: the digits of one token do not fit another body.
func TestP16_7DigitsOfOtherTokensAreRefused(t *testing.T) {
	b := some(t)
	var l []string
	for i := range 60 {
		l = append(l, issued(t, b, []string{"a", "b", "c-0"}[i%3], i/5))
	}
	for i, x := range l {
		for j, y := range l {
			mixed := x[:len(x)-64] + y[len(y)-64:]
			if i == j {
				takes(t, b, mixed, 0, mustParse(t, x))
			} else {
				refuses(t, b, mixed, 0, api.ErrTokenMac)
			}
		}
	}
}

// shadow is what a book is by the words of the chapter, with lists in the place of maps.
type shadow struct {
	tenants []api.Tenant
	texts   []string
	revoked []int
}

func (s *shadow) secret(name string) (string, bool) {
	i := slices.IndexFunc(s.tenants, func(x api.Tenant) bool { return x.Name == name })
	if i < 0 {
		return "", false
	}
	return s.tenants[i].Secret, true
}

func (s *shadow) issue(tenant string, until int) (string, api.Errno) {
	secret, ok := s.secret(tenant)
	if !ok {
		return "", api.ErrQuotaTenant
	}
	if until < 0 || until > most {
		return "", api.ErrArg
	}
	text := otherText(claim(tenant, until, len(s.texts)+1), secret)
	s.texts = append(s.texts, text)
	return text, api.OK
}

func (s *shadow) check(text string, now int) (api.Claim, api.Errno) {
	c, _, e := otherParse(text)
	if e != api.OK {
		return api.Claim{}, e
	}
	if secret, ok := s.secret(c.Tenant); !ok || text != otherText(c, secret) {
		return api.Claim{}, api.ErrTokenMac
	}
	if now > c.Until {
		return api.Claim{}, api.ErrTokenOld
	}
	if slices.Contains(s.revoked, c.Serial) {
		return api.Claim{}, api.ErrTokenRevoked
	}
	return c, api.OK
}

func TestP16_7MixedCallsAsTheWordsSay(t *testing.T) {
	for seed := range uint64(40) {
		r := mixed(100 + seed)
		s := &shadow{tenants: []api.Tenant{{Name: "a", Secret: "k"}, {Name: "b"}, {Name: "c", Secret: strings.Repeat("s", 64)}}[:1+r.IntN(3)]}
		b := made(t, s.tenants...)
		for range 500 {
			tenant := []string{"a", "b", "c", "d"}[r.IntN(4)]
			switch r.IntN(5) {
			case 0:
				until := r.IntN(14) - 2
				text, e := s.issue(tenant, until)
				issues(t, b, tenant, until, text, e)
			case 1:
				n := r.IntN(40) - 1
				if n < 1 {
					revokes(t, b, n, api.ErrArg)
				} else {
					s.revoked = append(s.revoked, n)
					revokes(t, b, n, api.OK)
				}
			default:
				text := otherText(claim(tenant, r.IntN(12), r.IntN(60)), []string{"k", "", strings.Repeat("s", 64)}[r.IntN(3)])
				if len(s.texts) > 0 && r.IntN(2) == 0 {
					text = s.texts[r.IntN(len(s.texts))]
				}
				now := r.IntN(14) - 1
				if c, e := s.check(text, now); e == api.OK {
					takes(t, b, text, now, c)
				} else {
					refuses(t, b, text, now, e)
				}
			}
		}
	}
}

func TestP16_7WhatIsRevokedStaysSo(t *testing.T) {
	b := some(t)
	var l []string
	for range 500 {
		l = append(l, issued(t, b, "a", 9))
	}
	for i := 0; i < 500; i += 2 {
		revokes(t, b, i+1, api.OK)
	}
	for range 500 {
		issued(t, b, "b", 0)
	}
	for i, text := range l {
		if i%2 == 0 {
			refuses(t, b, text, 9, api.ErrTokenRevoked)
		} else {
			takes(t, b, text, 9, claim("a", 9, i+1))
		}
	}
}

func TestR3NilBook(t *testing.T) {
	var b *token.Book
	text := printed(t, claim("a", 9, 1), "k")
	issues(t, b, "a", 9, "", api.ErrNil)
	issues(t, b, "", -1, "", api.ErrNil)
	refuses(t, b, text, 9, api.ErrNil)
	refuses(t, b, "", 9, api.ErrNil)
	refuses(t, b, text, 10, api.ErrNil)
	revokes(t, b, 1, api.ErrNil)
	revokes(t, b, 0, api.ErrNil)
	revokes(t, b, -1, api.ErrNil)
}
