package short_test

import (
	"strings"
	"testing"

	"haversack/short"
)

const allowed = "abcdefghijklmnopqrstuvwxyz0123456789-"

func TestLengths(t *testing.T) {
	for n := range 40 {
		if got := short.Name(strings.Repeat("a", n)); got != (n >= 1 && n <= 16) {
			t.Errorf("%d bytes: %v", n, got)
		}
	}
	if short.Name(strings.Repeat("-", 1<<20)) {
		t.Error("a megabyte is a short name")
	}
}

// Each byte alone, first, last and in the middle.
func TestBytes(t *testing.T) {
	for n := range 256 {
		b := string([]byte{byte(n)})
		want := strings.Contains(allowed, b)
		for _, s := range []string{b, b + "ab", "ab" + b, "a" + b + "b", strings.Repeat("z", 7) + b + strings.Repeat("0", 8)} {
			if got := short.Name(s); got != want {
				t.Errorf("%q: %v", s, got)
			}
		}
	}
}

func TestNames(t *testing.T) {
	for s, want := range map[string]bool{
		"t": true, "-": true, "--": true, "0": true, "a-9": true, "abcdefghijklmnop": true, "qrstuvwxyz012345": true, "6789-": true,
		"": false, "T": false, "a.b": false, "a_b": false, "a/b": false, "a b": false, " a": false, "a\n": false, "\x00": false, "é": false, "а": false,
		"abcdefghijklmnopq": false,
	} {
		if got := short.Name(s); got != want {
			t.Errorf("%q: %v", s, got)
		}
	}
}
