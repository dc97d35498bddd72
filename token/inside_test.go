package token

import (
	"strings"
	"testing"

	"haversack/api"
)

// A book that has issued nearly all numbers: nobody can wait till calls have made one.
func TestP16_4TheLastNumber(t *testing.T) {
	b, e := New([]api.Tenant{{Name: "a", Secret: "k"}})
	if e != api.OK {
		t.Fatal(e)
	}
	b.issued = 999999998
	for _, want := range []string{"a.5.999999999.", "a.5.1000000000."} {
		text, e := b.Issue("a", 5)
		if !strings.HasPrefix(text, want) || e != api.OK {
			t.Errorf("Issue: %q, %d; not %s..", text, e, want)
		}
		if c, e := b.Check(text, 5); c.Tenant != "a" || e != api.OK {
			t.Errorf("Check(%q): %v, %d", text, c, e)
		}
	}
	for range 3 {
		if text, e := b.Issue("a", 5); text != "" || e != api.ErrLong {
			t.Errorf("Issue beyond the last number: %q, %d", text, e)
		}
	}
	if text, e := b.Issue("b", -1); text != "" || e != api.ErrQuotaTenant {
		t.Errorf("Issue to nobody beyond the last number: %q, %d", text, e)
	}
	if text, e := b.Issue("a", -1); text != "" || e != api.ErrArg {
		t.Errorf("Issue until -1 beyond the last number: %q, %d", text, e)
	}
}
