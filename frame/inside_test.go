package frame

import (
	"strings"
	"testing"

	"haversack/api"
)

func encoded(t *testing.T, n int) []byte {
	t.Helper()
	b, e := Encode(api.Frame{Kind: 1, Body: strings.Repeat("x", n)})
	if e != api.OK {
		t.Fatal(e)
	}
	return b
}

// What was told is not kept, nor is the room in which it came.
func TestP18_2WhatWasToldIsLetGo(t *testing.T) {
	b := encoded(t, 20000)
	var many []byte
	for range 50 {
		many = append(many, b...)
	}
	for n := range 12 {
		d := New()
		if l, e := d.Feed(append(many, b[:n]...)); len(l) != 50 || e != api.OK {
			t.Fatalf("%d frames, %d", len(l), e)
		}
		if len(d.ahead) != n || cap(d.ahead) > 64 {
			t.Errorf("of %d bytes %d are kept, in room for %d", n, len(d.ahead), cap(d.ahead))
		}
	}
}

// Behind what is wrong nothing is read, so nothing is kept, however much is fed.
func TestP18_2NothingIsKeptBehindWhatIsWrong(t *testing.T) {
	for _, wrong := range [][]byte{{0xff, 0xff, 0xff, 0xff}, {0, 0, 0, 0, 0}, {0, 0, 0, 0, 1, 0, 0, 0, 0}} {
		d := New()
		d.Feed(encoded(t, 100)[:50])
		d.Feed(encoded(t, 100)[50:])
		d.Feed(wrong[:3])
		d.Feed(wrong[3:])
		for range 3 {
			d.Feed(make([]byte, 1000))
			if d.ahead != nil || d.wrong == api.OK {
				t.Errorf("behind %x %d bytes are kept, %d", wrong, len(d.ahead), d.wrong)
			}
		}
	}
}

// Bytes that come one by one are not all copied with each of them.
func TestP18_4SmallPartsAreNotSlow(t *testing.T) {
	b := encoded(t, 20000)
	n := testing.AllocsPerRun(3, func() {
		d := New()
		for i := range b {
			d.Feed(b[i : i+1])
		}
	})
	if n > 200 {
		t.Errorf("%.0f allocations for %d bytes", n, len(b))
	}
}
