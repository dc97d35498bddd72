package wire_test

import (
	"bytes"
	"encoding/binary"
	"encoding/hex"
	"math"
	"math/rand/v2"
	"reflect"
	"slices"
	"strings"
	"testing"

	"haversack/api"
	"haversack/wire"
)

// mixed tells numbers that look mixed and are the same in each run.
func mixed(seed uint64) *rand.Rand { return rand.New(rand.NewPCG(seed, 19)) }

func mixedText(r *rand.Rand, n int) string {
	out := make([]byte, n)
	for i := range out {
		out[i] = byte(r.UintN(256))
	}
	return string(out)
}

func many(n int) string { return strings.Repeat("x", n) }

func unhex(t *testing.T, s string) []byte {
	t.Helper()
	b, err := hex.DecodeString(strings.ReplaceAll(s, " ", ""))
	if err != nil {
		t.Fatal(err)
	}
	return b
}

// part is one of the fields, as the chapter's table names it, with the place of it in a request.
type part struct {
	name   string
	number func(r *api.Request) *int
	text   func(r *api.Request) *string
	most   int // bytes of a text
}

var (
	txn     = part{name: "Txn", number: func(r *api.Request) *int { return &r.Txn }}
	from    = part{name: "From", number: func(r *api.Request) *int { return &r.From }}
	most    = part{name: "Most", number: func(r *api.Request) *int { return &r.Most }}
	archive = part{name: "Archive", text: func(r *api.Request) *string { return &r.Archive }, most: 255}
	entry   = part{name: "Entry", text: func(r *api.Request) *string { return &r.Entry }, most: 255}
	data    = part{name: "Data", text: func(r *api.Request) *string { return &r.Data }, most: 16384}
	token   = part{name: "Token", text: func(r *api.Request) *string { return &r.Token }, most: 256}
	all     = []part{txn, archive, entry, data, from, most, token}
)

// shapes is the chapter's table: the fields of each kind.
var shapes = map[api.ReqKind][]part{
	1: {token}, 2: {}, 3: {txn, archive, entry, from, most}, 4: {txn, archive},
	5: {txn, archive, entry, data}, 6: {txn, archive, entry, data}, 7: {txn, archive, entry},
	8: {txn}, 9: {txn}, 10: {txn, archive, from, most}, 11: {txn, archive, data}, 12: {}, 13: {},
}

func has(k api.ReqKind, name string) bool {
	return slices.ContainsFunc(shapes[k], func(p part) bool { return p.name == name })
}

func le(v, n int) []byte { return binary.LittleEndian.AppendUint64(nil, uint64(v))[:n] }

// slowPut lays a request's fields by the table, whatever stands in them.
func slowPut(r api.Request) []byte {
	out := []byte{byte(r.Kind)}
	for _, p := range shapes[r.Kind] {
		if p.number != nil {
			out = append(out, le(*p.number(&r), 4)...)
			continue
		}
		out = append(append(out, le(len(*p.text(&r)), 2)...), *p.text(&r)...)
	}
	return out
}

// slowNumber and slowText take a field off b; whether it may be there is told, too.
func slowNumber(b []byte) (int, []byte, bool) {
	if len(b) < 4 {
		return 0, nil, false
	}
	v := int64(b[0]) + int64(b[1])<<8 + int64(b[2])<<16 + int64(b[3])<<24
	return int(v), b[4:], v <= 1000000000
}

func slowText(b []byte, most int) (string, []byte, bool) {
	if len(b) < 2 {
		return "", nil, false
	}
	n := int(b[0]) + int(b[1])<<8
	if n > most || n > len(b)-2 {
		return "", nil, false
	}
	return string(b[2 : 2+n]), b[2+n:], true
}

// slowGet is P19.2 word by word.
func slowGet(b []byte) (api.Request, api.Errno) {
	if len(b) == 0 {
		return api.Request{}, api.ErrWireForm
	}
	r := api.Request{Kind: api.ReqKind(b[0])}
	l, ok := shapes[r.Kind]
	if !ok {
		return api.Request{}, api.ErrWireKind
	}
	b = b[1:]
	for _, p := range l {
		if p.number != nil {
			*p.number(&r), b, ok = slowNumber(b)
		} else {
			*p.text(&r), b, ok = slowText(b, p.most)
		}
		if !ok {
			return api.Request{}, api.ErrWireForm
		}
	}
	if len(b) > 0 {
		return api.Request{}, api.ErrWireForm
	}
	return r, api.OK
}

// slowPutResponse lays a response's fields, whatever stands in them.
func slowPutResponse(r api.Response) []byte {
	out := le(int(r.Code), 2)
	for _, v := range []int{r.Txn, r.At, r.Size, r.Use.Bytes, r.Use.Entries} {
		out = append(out, le(v, 4)...)
	}
	out = append(append(out, le(len(r.Data), 2)...), r.Data...)
	out = append(out, byte(len(r.Names)))
	for _, s := range r.Names {
		out = append(append(out, byte(len(s))), s...)
	}
	return out
}

// slowGetResponse is P19.4 word by word.
func slowGetResponse(b []byte) (api.Response, api.Errno) {
	var r api.Response
	if len(b) < 2 || len(b) > 20000 {
		return api.Response{}, api.ErrWireForm
	}
	r.Code = api.Errno(int(b[0]) + int(b[1])<<8)
	b = b[2:]
	var ok bool
	for _, p := range []*int{&r.Txn, &r.At, &r.Size, &r.Use.Bytes, &r.Use.Entries} {
		if *p, b, ok = slowNumber(b); !ok {
			return api.Response{}, api.ErrWireForm
		}
	}
	if r.Data, b, ok = slowText(b, 16384); !ok || len(b) == 0 || b[0] > 64 {
		return api.Response{}, api.ErrWireForm
	}
	n := int(b[0])
	for b = b[1:]; n > 0; n-- {
		if len(b) == 0 || len(b)-1 < int(b[0]) {
			return api.Response{}, api.ErrWireForm
		}
		r.Names = append(r.Names, string(b[1:1+int(b[0])]))
		b = b[1+int(b[0]):]
	}
	if len(b) > 0 {
		return api.Response{}, api.ErrWireForm
	}
	return r, api.OK
}

// brief and briefly are for what is told of failures.
func brief(r api.Request) api.Request {
	for _, p := range all {
		if p.text != nil {
			*p.text(&r) = begin(*p.text(&r))
		}
	}
	return r
}

func briefly(r api.Response) api.Response {
	r.Data = begin(r.Data)
	r.Names = slices.Clone(r.Names[:min(9, len(r.Names))])
	for i, s := range r.Names {
		r.Names[i] = begin(s)
	}
	return r
}

func begin(s string) string { return s[:min(20, len(s))] }

func puts(t *testing.T, r api.Request, want []byte) {
	t.Helper()
	if b, e := wire.PutRequest(r); !bytes.Equal(b, want) || e != api.OK {
		t.Errorf("PutRequest(%#v): %.60x, %d; not %.60x", brief(r), b, e, want)
	}
}

func refuses(t *testing.T, r api.Request, want api.Errno) {
	t.Helper()
	if b, e := wire.PutRequest(r); len(b) != 0 || e != want {
		t.Errorf("PutRequest(%#v): %d bytes, %d; not %d", brief(r), len(b), e, want)
	}
}

func gets(t *testing.T, b []byte, want api.Request, e api.Errno) {
	t.Helper()
	if r, g := wire.GetRequest(b); r != want || g != e {
		t.Errorf("GetRequest(%.60x, of %d bytes): %#v, %d; not %#v, %d", b, len(b), brief(r), g, brief(want), e)
	}
}

// goes: a request is put as the bytes of the form, and these are got as the request.
func goes(t *testing.T, r api.Request) {
	t.Helper()
	b := slowPut(r)
	puts(t, r, b)
	gets(t, b, r, api.OK)
}

func same(a, b api.Response) bool {
	names := slices.Equal(a.Names, b.Names)
	a.Names, b.Names = nil, nil
	return names && reflect.DeepEqual(a, b)
}

func putsResponse(t *testing.T, r api.Response, want []byte) {
	t.Helper()
	if b, e := wire.PutResponse(r); !bytes.Equal(b, want) || e != api.OK {
		t.Errorf("PutResponse(%#v): %d bytes, %.60x, %d; not %d, %.60x", briefly(r), len(b), b, e, len(want), want)
	}
}

func refusesResponse(t *testing.T, r api.Response, want api.Errno) {
	t.Helper()
	if b, e := wire.PutResponse(r); len(b) != 0 || e != want {
		t.Errorf("PutResponse(%#v): %d bytes, %d; not %d", briefly(r), len(b), e, want)
	}
}

func getsResponse(t *testing.T, b []byte, want api.Response, e api.Errno) {
	t.Helper()
	if r, g := wire.GetResponse(b); !same(r, want) || g != e || e != api.OK && r.Names != nil {
		t.Errorf("GetResponse(%.60x, of %d bytes): %#v, %d; not %#v, %d", b, len(b), briefly(r), g, briefly(want), e)
	}
}

func goesResponse(t *testing.T, r api.Response) {
	t.Helper()
	b := slowPutResponse(r)
	putsResponse(t, r, b)
	getsResponse(t, b, r, api.OK)
}

// filled is a request of a kind with something in each of its fields.
func filled(k api.ReqKind) api.Request {
	r := api.Request{Kind: k}
	for i, p := range shapes[k] {
		if p.number != nil {
			*p.number(&r) = 258 + i
		} else {
			*p.text(&r) = strings.ToLower(p.name)
		}
	}
	return r
}

func kinds() []api.ReqKind {
	var l []api.ReqKind
	for k := api.ReqHello; k <= api.ReqBye; k++ {
		l = append(l, k)
	}
	return l
}

var (
	numbersThatMayBe    = []int{0, 1, 255, 256, 65535, 65536, 1<<24 - 1, 1 << 24, 999999999, 1000000000}
	numbersThatMayNotBe = []int{-1, 1000000001, math.MaxInt32, 1 << 31, math.MaxUint32, 1 << 32, 1<<32 + 1, math.MaxInt, math.MinInt, math.MinInt32, -1 << 32}
)

func TestTheExamples(t *testing.T) {
	list := api.Request{Kind: api.ReqList, Txn: 7, Archive: "a"}
	puts(t, api.Request{Kind: api.ReqBegin}, []byte{2})
	puts(t, list, unhex(t, "04 07 00 00 00 01 00 61"))
	gets(t, []byte{2}, api.Request{Kind: api.ReqBegin}, api.OK)
	gets(t, unhex(t, "04 07 00 00 00 01 00 61"), list, api.OK)
	gets(t, []byte{2, 0}, api.Request{}, api.ErrWireForm)
	gets(t, unhex(t, "04 07 00 00 00 01 00 61 00"), api.Request{}, api.ErrWireForm)
	gets(t, []byte{0x0e}, api.Request{}, api.ErrWireKind)
	gets(t, nil, api.Request{}, api.ErrWireForm)
	gets(t, []byte{}, api.Request{}, api.ErrWireForm)
	refuses(t, api.Request{Kind: api.ReqBegin, Txn: 1}, api.ErrArg)
	refuses(t, api.Request{}, api.ErrWireKind)
	refuses(t, api.Request{Kind: api.ReqHello, Token: many(257)}, api.ErrLong)
	noughts := make([]byte, 20)
	putsResponse(t, api.Response{Code: 140}, slices.Concat([]byte{0x8c, 0}, noughts, []byte{0, 0, 0}))
	putsResponse(t, api.Response{Code: 140, Names: []string{"x"}}, slices.Concat([]byte{0x8c, 0}, noughts, []byte{0, 0, 1, 1, 0x78}))
	getsResponse(t, []byte{1, 2, 3}, api.Response{}, api.ErrWireForm)
}

// Each kind's bytes, written out.
func TestP19_1And2EachKind(t *testing.T) {
	for _, x := range []struct {
		r    api.Request
		want string
	}{
		{api.Request{Kind: api.ReqHello, Token: "t.1"}, "01 0300 742e31"},
		{api.Request{Kind: api.ReqHello}, "01 0000"},
		{api.Request{Kind: api.ReqBegin}, "02"},
		{api.Request{Kind: api.ReqRead, Txn: 1, Archive: "x", Entry: "ab", From: 258, Most: 1000000000}, "03 01000000 0100 78 0200 6162 02010000 00ca9a3b"},
		{api.Request{Kind: api.ReqList, Txn: 0x01020304, Archive: "x"}, "04 04030201 0100 78"},
		{api.Request{Kind: api.ReqPut, Txn: 2, Archive: "x", Entry: "y", Data: "z\x00"}, "05 02000000 0100 78 0100 79 0200 7a00"},
		{api.Request{Kind: api.ReqAdd, Txn: 2, Archive: "x", Entry: "y", Data: "z\xff"}, "06 02000000 0100 78 0100 79 0200 7aff"},
		{api.Request{Kind: api.ReqDelete, Txn: 2, Archive: "x", Entry: "y"}, "07 02000000 0100 78 0100 79"},
		{api.Request{Kind: api.ReqCommit, Txn: 3}, "08 03000000"},
		{api.Request{Kind: api.ReqAbort, Txn: 4}, "09 04000000"},
		{api.Request{Kind: api.ReqExport, Txn: 5, Archive: "x", From: 6, Most: 7}, "0a 05000000 0100 78 06000000 07000000"},
		{api.Request{Kind: api.ReqImport, Txn: 5, Archive: "x", Data: "PK"}, "0b 05000000 0100 78 0200 504b"},
		{api.Request{Kind: api.ReqUse}, "0c"},
		{api.Request{Kind: api.ReqBye}, "0d"},
	} {
		puts(t, x.r, unhex(t, x.want))
		gets(t, unhex(t, x.want), x.r, api.OK)
	}
	for _, k := range kinds() {
		goes(t, api.Request{Kind: k})
		goes(t, filled(k))
	}
}

// Of no kind nothing else is looked at; kinds whose lowest byte is a kind's are none, either.
func TestP19_1KindsThatAreNone(t *testing.T) {
	for _, k := range []api.ReqKind{0, 14, 15, -1, -2, 127, 128, 255, 256, 257, 258, 256 + 13, 1 << 32, 1<<32 + 2, -256 + 2, math.MaxInt, math.MinInt, math.MinInt + 2} {
		refuses(t, api.Request{Kind: k}, api.ErrWireKind)
		refuses(t, api.Request{Kind: k, Txn: 1, Archive: "x"}, api.ErrWireKind)
		refuses(t, api.Request{Kind: k, Txn: -1, From: -1, Most: -1}, api.ErrWireKind)
		refuses(t, api.Request{Kind: k, Archive: many(256), Entry: many(256), Data: many(16385), Token: many(257)}, api.ErrWireKind)
	}
}

// A field that a kind does not have is zero, whatever else is wrong.
func TestP19_1FieldsThatAKindDoesNotHave(t *testing.T) {
	for _, k := range kinds() {
		for _, p := range all {
			if has(k, p.name) {
				continue
			}
			for _, r := range []api.Request{{Kind: k}, filled(k), tooLong(k)} {
				if p.text != nil {
					for _, s := range []string{"x", "\x00", many(p.most), many(p.most + 1), many(70000)} {
						*p.text(&r) = s
						refuses(t, r, api.ErrArg)
					}
					continue
				}
				for _, v := range slices.Concat(numbersThatMayBe[1:], numbersThatMayNotBe) {
					*p.number(&r) = v
					refuses(t, r, api.ErrArg)
				}
			}
		}
	}
}

// tooLong is a request of a kind of whose texts each has a byte too many.
func tooLong(k api.ReqKind) api.Request {
	r := filled(k)
	for _, p := range shapes[k] {
		if p.text != nil {
			*p.text(&r) = many(p.most + 1)
		}
	}
	return r
}

func TestP19_1Numbers(t *testing.T) {
	for _, k := range kinds() {
		for _, p := range shapes[k] {
			if p.number == nil {
				continue
			}
			for _, r := range []api.Request{{Kind: k}, filled(k)} {
				for _, v := range numbersThatMayBe {
					*p.number(&r) = v
					goes(t, r)
				}
				for _, v := range numbersThatMayNotBe {
					*p.number(&r) = v
					refuses(t, r, api.ErrArg)
				}
			}
			r := tooLong(k) // a number that may not be is told ahead of texts that are too long, wherever they stand
			for _, v := range numbersThatMayNotBe {
				*p.number(&r) = v
				refuses(t, r, api.ErrArg)
			}
		}
	}
}

func TestP19_1Texts(t *testing.T) {
	for _, k := range kinds() {
		for _, p := range shapes[k] {
			if p.text == nil {
				continue
			}
			for _, r := range []api.Request{{Kind: k}, filled(k)} {
				for _, n := range []int{0, 1, 2, 254, 255, 256, 257, 16383, 16384} {
					if *p.text(&r) = many(n); n <= p.most {
						goes(t, r)
					} else {
						refuses(t, r, api.ErrLong)
					}
				}
				for _, n := range []int{p.most + 1, 16385, 65535, 65536, 65537, 65536 + p.most, 1 << 20} {
					*p.text(&r) = many(n)
					refuses(t, r, api.ErrLong)
				}
			}
		}
	}
}

// Texts are bytes: nothing in them is looked at.
func TestP19_1AnyBytesMayStandInTexts(t *testing.T) {
	var every []byte
	for n := range 255 {
		every = append(every, byte(255-n))
	}
	for _, s := range []string{"\x00", "\xff\xfe", "é\n", "..", "A B", "/", string(every)} {
		goes(t, api.Request{Kind: api.ReqHello, Token: s})
		goes(t, api.Request{Kind: api.ReqPut, Txn: 1, Archive: s, Entry: s, Data: s})
		goes(t, api.Request{Kind: api.ReqImport, Txn: 1, Archive: s, Data: s})
		goesResponse(t, api.Response{Data: s, Names: []string{s, s, ""}})
	}
}

func TestP19_2FirstBytes(t *testing.T) {
	for n := range 256 {
		for _, rest := range []string{"", "\x00", "\x00\x00", "\x00\x00\x00\x00", many(30), many(70000)} {
			b := append([]byte{byte(n)}, rest...)
			want, e := slowGet(b)
			if kind := n >= 1 && n <= 13; kind == (e == api.ErrWireKind) {
				t.Fatalf("%d: %d", n, e)
			}
			gets(t, b, want, e)
		}
	}
}

// Numbers whose bytes say more than 1000000000.
func TestP19_2NumbersThatAreTooGreat(t *testing.T) {
	for _, k := range kinds() {
		for _, p := range shapes[k] {
			if p.number == nil {
				continue
			}
			for _, v := range []int{1000000001, 1 << 30, math.MaxInt32, 1 << 31, 1<<31 + 1, math.MaxUint32 - 1, math.MaxUint32} {
				r := filled(k)
				*p.number(&r) = v
				gets(t, slowPut(r), api.Request{}, api.ErrWireForm)
			}
		}
	}
}

// Texts that are too long, though all their bytes are there.
func TestP19_2TextsThatAreTooLong(t *testing.T) {
	for _, k := range kinds() {
		for _, p := range shapes[k] {
			if p.text == nil {
				continue
			}
			for _, n := range []int{p.most + 1, p.most + 2, 32767, 32768, 65535} {
				r := filled(k)
				*p.text(&r) = many(n)
				gets(t, slowPut(r), api.Request{}, api.ErrWireForm)
			}
		}
	}
}

// Lengths that say another number of bytes than are there.
func TestP19_2LengthsThatDoNotFit(t *testing.T) {
	hello := slowPut(api.Request{Kind: api.ReqHello, Token: "abcd"})
	zipped := slowPut(api.Request{Kind: api.ReqImport, Txn: 1, Archive: "abcd", Data: "ef"})
	for n := range 65536 {
		copy(hello[1:], le(n, 2))
		want, e := slowGet(hello)
		if gets(t, hello, want, e); (n == 4) != (e == api.OK) {
			t.Fatalf("%d: %d", n, e)
		}
		copy(zipped[5:], le(n, 2))
		want, e = slowGet(zipped)
		gets(t, zipped, want, e)
	}
}

func TestP19_3Numbers(t *testing.T) {
	var r api.Response
	for _, p := range []*int{&r.Txn, &r.At, &r.Size, &r.Use.Bytes, &r.Use.Entries} {
		for _, v := range numbersThatMayBe {
			r = api.Response{}
			*p = v
			goesResponse(t, r)
			r = api.Response{Code: 3, Txn: 4, At: 5, Size: 6, Data: "x", Names: []string{"y"}, Use: api.Use{Bytes: 7, Entries: 8}}
			*p = v
			goesResponse(t, r)
		}
		for _, v := range numbersThatMayNotBe {
			r = api.Response{}
			*p = v
			refusesResponse(t, r, api.ErrArg)
			// Told ahead of all that is too long.
			r = api.Response{Data: many(16385), Names: make([]string, 65)}
			*p = v
			refusesResponse(t, r, api.ErrArg)
			r = api.Response{Names: []string{many(256)}}
			*p = v
			refusesResponse(t, r, api.ErrArg)
			r = api.Response{Data: many(16384), Names: slices.Repeat([]string{many(255)}, 64)}
			*p = v
			refusesResponse(t, r, api.ErrArg)
		}
	}
}

func TestP19_3Fields(t *testing.T) {
	r := api.Response{Code: 0x0102, Txn: 0x03040506, At: 1, Size: 0x0708, Data: "ab", Names: []string{"c", "", "de"}, Use: api.Use{Bytes: 9, Entries: 10}}
	b := unhex(t, "0201 06050403 01000000 08070000 09000000 0a000000 0200 6162 03 01 63 00 02 6465")
	putsResponse(t, r, b)
	getsResponse(t, b, r, api.OK)
	noughts := make([]byte, 25)
	putsResponse(t, api.Response{}, noughts)
	putsResponse(t, api.Response{Names: []string{}}, noughts)
	getsResponse(t, noughts, api.Response{}, api.OK)
}

func TestP19_3Codes(t *testing.T) {
	for _, c := range []api.Errno{0, 1, 2, 140, 255, 256, 257, 32767, 32768, 65534, 65535} {
		goesResponse(t, api.Response{Code: c})
	}
	for _, c := range []api.Errno{-1, 65536, 65537, -65536, 1 << 31, 1 << 32, 1<<32 + 1, math.MaxInt, math.MinInt} {
		refusesResponse(t, api.Response{Code: c}, api.ErrArg)
		refusesResponse(t, api.Response{Code: c, Data: many(16385), Names: make([]string, 65)}, api.ErrArg)
	}
}

func TestP19_3WhatIsTooLong(t *testing.T) {
	for _, n := range []int{0, 1, 255, 256, 16383, 16384} {
		goesResponse(t, api.Response{Code: 7, Data: many(n)})
	}
	for _, n := range []int{16385, 16386, 19975, 20000, 65535, 65536, 65537, 1 << 20} {
		refusesResponse(t, api.Response{Data: many(n)}, api.ErrLong)
	}
	for n := range 65 {
		goesResponse(t, api.Response{Names: slices.Repeat([]string{"ab"}, n)})
		goesResponse(t, api.Response{Names: make([]string, n)})
	}
	for _, n := range []int{65, 66, 255, 256, 257, 320, 65536, 1 << 20} {
		refusesResponse(t, api.Response{Names: make([]string, n)}, api.ErrLong)
	}
	for _, n := range []int{0, 1, 127, 128, 254, 255} {
		for at := range 64 {
			l := make([]string, 64)
			l[at] = many(n)
			goesResponse(t, api.Response{Names: l})
		}
	}
	for _, n := range []int{256, 257, 511, 512, 65536, 1 << 20} {
		for at := range 64 {
			l := make([]string, 64)
			l[at] = many(n)
			refusesResponse(t, api.Response{Names: l}, api.ErrLong)
		}
	}
}

// long is a response whose bytes are so many, each of its fields being no longer than it may be.
func long(t *testing.T, n int) api.Response {
	t.Helper()
	r := api.Response{Data: many(16000)}
	lacks := n - 16025
	for ; lacks > 256; lacks -= 256 {
		r.Names = append(r.Names, many(255))
	}
	r.Names = append(r.Names, many(lacks-1))
	if len(slowPutResponse(r)) != n {
		t.Fatalf("%d bytes, not %d", len(slowPutResponse(r)), n)
	}
	return r
}

func TestP19_3And4TooManyBytesInAll(t *testing.T) {
	for _, n := range []int{19998, 19999, 20000} {
		goesResponse(t, long(t, n))
	}
	for _, n := range []int{20001, 20002, 25000} {
		refusesResponse(t, long(t, n), api.ErrLong)
		getsResponse(t, slowPutResponse(long(t, n)), api.Response{}, api.ErrWireForm)
	}
	greatest := api.Response{Data: many(16384), Names: slices.Repeat([]string{many(255)}, 64)}
	refusesResponse(t, greatest, api.ErrLong)
	getsResponse(t, slowPutResponse(greatest), api.Response{}, api.ErrWireForm)
}

func TestP19_4BytesThatAreNoResponses(t *testing.T) {
	whole := slowPutResponse(api.Response{Code: 1, Txn: 2, Data: "ab", Names: []string{"c", "de"}})
	getsResponse(t, nil, api.Response{}, api.ErrWireForm)
	getsResponse(t, []byte{}, api.Response{}, api.ErrWireForm)
	for n := range whole {
		getsResponse(t, whole[:n], api.Response{}, api.ErrWireForm)
	}
	for n := range 40 {
		getsResponse(t, make([]byte, n), api.Response{}, map[bool]api.Errno{true: api.OK, false: api.ErrWireForm}[n == 25])
	}
	var r api.Response
	for _, p := range []*int{&r.Txn, &r.At, &r.Size, &r.Use.Bytes, &r.Use.Entries} {
		for _, v := range []int{1000000001, 1 << 30, math.MaxInt32, 1 << 31, 1<<31 + 1, math.MaxUint32} {
			r = api.Response{Code: 1, Data: "ab"}
			*p = v
			getsResponse(t, slowPutResponse(r), api.Response{}, api.ErrWireForm)
		}
	}
	for _, n := range []int{16385, 16386, 19975, 32768, 65535} {
		getsResponse(t, slowPutResponse(api.Response{Data: many(n)}), api.Response{}, api.ErrWireForm)
	}
	for n := 65; n < 256; n++ {
		getsResponse(t, slowPutResponse(api.Response{Names: make([]string, n)}), api.Response{}, api.ErrWireForm)
	}
}

// mixedRequest is a request of which nothing is wrong.
func mixedRequest(r *rand.Rand) api.Request {
	out := api.Request{Kind: api.ReqKind(1 + r.IntN(13))}
	for _, p := range shapes[out.Kind] {
		if p.number != nil {
			*p.number(&out) = []int{r.IntN(1000000001), r.IntN(300)}[r.IntN(2)]
		} else {
			*p.text(&out) = mixedText(r, r.IntN([]int{1, 4, p.most + 1}[r.IntN(3)]))
		}
	}
	return out
}

func mixedResponse(r *rand.Rand) api.Response {
	number := func() int { return r.IntN([]int{1, 300, 1000000001}[r.IntN(3)]) }
	out := api.Response{Code: api.Errno(r.IntN(65536)), Txn: number(), At: number(), Size: number()}
	out.Use = api.Use{Bytes: number(), Entries: number()}
	out.Data = mixedText(r, r.IntN([]int{1, 4, 300, 9000}[r.IntN(4)]))
	for range r.IntN([]int{1, 4, 65}[r.IntN(3)]) {
		out.Names = append(out.Names, mixedText(r, r.IntN([]int{1, 4, 160}[r.IntN(3)])))
	}
	return out
}

func TestP19_5WhatIsPutIsGotAgain(t *testing.T) {
	r := mixed(1)
	for range 3000 {
		goes(t, mixedRequest(r))
		goesResponse(t, mixedResponse(r))
	}
}

// cuts is lengths to which n bytes are cut: all, or those at either end and some between.
func cuts(r *rand.Rand, n int) []int {
	var l []int
	for i := range n {
		if i < 40 || i > n-40 || r.IntN(200) == 0 {
			l = append(l, i)
		}
	}
	return l
}

func TestP19_5FurtherBytesAndBytesThatLack(t *testing.T) {
	r := mixed(2)
	for range 300 {
		b := slowPut(mixedRequest(r))
		for _, n := range cuts(r, len(b)) {
			gets(t, b[:n], api.Request{}, api.ErrWireForm)
		}
		c := slowPutResponse(mixedResponse(r))
		for _, n := range cuts(r, len(c)) {
			getsResponse(t, c[:n], api.Response{}, api.ErrWireForm)
		}
		for _, n := range []int{1, 2, 4, 100, 70000} {
			gets(t, append(b[:len(b):len(b)], mixedText(r, n)...), api.Request{}, api.ErrWireForm)
			gets(t, append(b[:len(b):len(b)], make([]byte, n)...), api.Request{}, api.ErrWireForm)
			getsResponse(t, append(c[:len(c):len(c)], mixedText(r, n)...), api.Response{}, api.ErrWireForm)
			getsResponse(t, append(c[:len(c):len(c)], make([]byte, n)...), api.Response{}, api.ErrWireForm)
		}
	}
}

// asWords: any bytes are got as the words say, and what is got is put as the same bytes.
func asWords(t *testing.T, b []byte) {
	t.Helper()
	want, e := slowGet(b)
	if gets(t, b, want, e); e == api.OK {
		puts(t, want, b)
	}
	response, e := slowGetResponse(b)
	if getsResponse(t, b, response, e); e == api.OK {
		putsResponse(t, response, b)
	}
}

func TestP19_5AnyBytes(t *testing.T) {
	r := mixed(3)
	for range 20000 {
		b := []byte(mixedText(r, r.IntN(60)))
		for i := range b {
			if r.IntN(3) > 0 {
				b[i] %= 3 // so that some are requests
			}
		}
		if len(b) > 0 && r.IntN(2) == 0 {
			b[0] = byte(r.IntN(15))
		}
		asWords(t, b)
	}
	for _, b := range [][]byte{make([]byte, 1<<20), bytes.Repeat([]byte{1}, 1<<20), bytes.Repeat([]byte{0xff}, 1<<20), bytes.Repeat([]byte{5}, 20000)} {
		asWords(t, b)
	}
}

// Bytes of requests and responses in which one is another one, or some lack, or are twice there.
func TestP19_5BytesThatWereSpoilt(t *testing.T) {
	r := mixed(4)
	for range 6000 {
		b := slowPut(mixedRequest(r))
		if r.IntN(2) == 0 {
			b = slowPutResponse(mixedResponse(r))
		}
		i := r.IntN(min(len(b), []int{10, 30, 20000}[r.IntN(3)]))
		n := min(1+r.IntN(5), len(b)-i)
		switch r.IntN(3) {
		case 0:
			b[i] = []byte{0, 1, b[i] + 1, b[i] - 1, 64, 65, 255}[r.IntN(7)]
		case 1:
			b = slices.Delete(b, i, i+n)
		case 2:
			b = slices.Insert(b, i, slices.Clone(b[i:i+n])...)
		}
		asWords(t, b)
	}
}

// What is handed in is not written into, nor its spare room, and not kept; what comes out is new.
func TestR2(t *testing.T) {
	list := api.Request{Kind: api.ReqPut, Txn: 1, Archive: "abc", Entry: "def", Data: "ghi"}
	response := api.Response{Data: "abc", Names: []string{"de", "fg"}}
	b, c := slowPut(list), slowPutResponse(response)
	for _, room := range [][]byte{append(bytes.Clone(b), many(50)...), append(bytes.Clone(c), many(50)...)} {
		was := bytes.Clone(room)
		for n := range room {
			wire.GetRequest(room[:n])
			wire.GetResponse(room[:n])
		}
		if !bytes.Equal(room, was) {
			t.Errorf("the bytes that were handed in are %x", room)
		}
	}
	gotList, _ := wire.GetRequest(b)
	gotResponse, _ := wire.GetResponse(c)
	clear(b)
	clear(c)
	if gotList != list || !same(gotResponse, response) {
		t.Errorf("the bytes that were handed in are kept: %#v, %#v", gotList, gotResponse)
	}

	room := []string{"de", "fg", "spare", "room"}
	was := slices.Clone(room)
	one, _ := wire.PutResponse(api.Response{Names: room[:2]})
	other, _ := wire.PutResponse(api.Response{Names: room[:2]})
	wire.PutResponse(api.Response{Code: -1, Names: room[:2]})
	first, _ := wire.GetResponse(one)
	second, _ := wire.GetResponse(one)
	if !slices.Equal(room, was) {
		t.Errorf("the names that were handed in are %q", room)
	}
	clear(one)
	first.Names[0] = "x"
	if !bytes.Equal(other, slowPutResponse(api.Response{Names: was[:2]})) || !slices.Equal(second.Names, was[:2]) {
		t.Errorf("two answers share memory: %x, %q", other, second.Names)
	}
}
