package tenants_test

import (
	"math"
	"slices"
	"strings"
	"testing"

	"haversack/api"
	"haversack/tenants"
)

const most = 1000000000

func checks(t *testing.T, want api.Errno, l ...api.Tenant) {
	t.Helper()
	if e := tenants.Check(l); e != want {
		t.Errorf("Check(%d tenants, %.200v): %d, not %d", len(l), l, e, want)
	}
}

// several is n tenants, of which nothing is wrong.
func several(n int) []api.Tenant {
	var l []api.Tenant
	for i := range n {
		l = append(l, api.Tenant{Name: "t-" + string(rune('a'+i)), Secret: "same", Bytes: i, Entries: most - i})
	}
	return l
}

func TestListsThatMayBe(t *testing.T) {
	checks(t, api.OK)
	for n := range 9 {
		checks(t, api.OK, several(n)...)
	}
	for _, x := range []api.Tenant{
		{Name: "a"}, {Name: "-"}, {Name: "0"}, {Name: "abcdefghijklmnop"},
		{Name: "a", Secret: strings.Repeat("k", 64)}, {Name: "a", Secret: "\x00\xff"},
		{Name: "a", Bytes: most, Entries: most}, {Name: "a", Bytes: most}, {Name: "a", Entries: most}, {Name: "a", Bytes: 1, Entries: 1},
	} {
		checks(t, api.OK, x)
	}
	checks(t, api.OK, api.Tenant{Name: "a"}, api.Tenant{Name: "aa"}, api.Tenant{Name: "a-"}, api.Tenant{Name: "-a"})
}

// That there are too many is told ahead of what is wrong with one of them.
func TestTooMany(t *testing.T) {
	for _, n := range []int{9, 10, 26} {
		checks(t, api.ErrLong, several(n)...)
		checks(t, api.ErrLong, make([]api.Tenant, n)...)
	}
	checks(t, api.ErrLong, make([]api.Tenant, 100000)...)
	checks(t, api.ErrArg, make([]api.Tenant, 8)...)
}

// Each thing that may not be, at each place of lists of each length.
func TestTenantsThatMayNotBe(t *testing.T) {
	for _, bad := range []api.Tenant{
		{}, {Bytes: 1, Entries: 1}, {Name: "A"}, {Name: "a.b"}, {Name: "a_b"}, {Name: "a/b"}, {Name: " a"}, {Name: "a\n"}, {Name: "é"},
		{Name: "\x00"}, {Name: strings.Repeat("a", 17)},
		{Name: "a", Secret: strings.Repeat("k", 65)}, {Name: "a", Secret: strings.Repeat("k", 1<<20)}, {Name: "a", Secret: strings.Repeat("é", 33)},
		{Name: "a", Bytes: -1}, {Name: "a", Bytes: most + 1}, {Name: "a", Bytes: math.MinInt}, {Name: "a", Bytes: math.MaxInt}, {Name: "a", Bytes: 1 << 32},
		{Name: "a", Entries: -1}, {Name: "a", Entries: most + 1}, {Name: "a", Entries: math.MinInt}, {Name: "a", Entries: math.MaxInt}, {Name: "a", Entries: 1 << 32},
	} {
		for n := range 8 {
			for at := range n + 1 {
				checks(t, api.ErrArg, slices.Insert(several(n), at, bad)...)
			}
		}
	}
}

func TestNamesThatStandTwice(t *testing.T) {
	for n := 2; n <= 8; n++ {
		for i := range n {
			for j := range n {
				if i == j {
					continue
				}
				l := several(n)
				l[i].Name = l[j].Name
				checks(t, api.ErrArg, l...)
				l[i] = l[j]
				checks(t, api.ErrArg, l...)
			}
		}
	}
}

func TestR2TheListIsNotWrittenInto(t *testing.T) {
	room := several(8)
	was := slices.Clone(room)
	checks(t, api.OK, room[:3]...)
	checks(t, api.OK, room...)
	if !slices.Equal(room, was) {
		t.Errorf("the list that was handed in is %v", room)
	}
}
