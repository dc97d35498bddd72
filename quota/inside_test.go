package quota

import (
	"testing"

	"haversack/api"
)

// What is gone is not kept, however many there were.
func TestP17_5WhatIsGoneIsDeleted(t *testing.T) {
	b, e := New([]api.Tenant{{Name: "a", Bytes: 10, Entries: 10}})
	if e != api.OK {
		t.Fatal(e)
	}
	for i := range 1000 {
		id, e := b.Reserve("a", api.Use{Bytes: i%3 - 1, Entries: 1})
		if e != api.OK || len(b.reservations) != 1 {
			t.Fatalf("reservation %d: %d, %d are kept", i, e, len(b.reservations))
		}
		if i%2 == 0 {
			e = b.Free(id)
		} else {
			e = b.Take(id)
			b.Set("a", api.Use{})
		}
		if e != api.OK || len(b.reservations) != 0 {
			t.Fatalf("behind reservation %d: %d, %d are kept", i, e, len(b.reservations))
		}
	}
}
