package engine

import (
	"fmt"
	"math"
	"math/rand/v2"
	"reflect"
	"slices"
	"strings"
	"testing"

	"haversack/api"
	"haversack/shelf"
	"haversack/zip"
)

// write is a write of the tenant t.
func write(archive, entry, data string, there bool) api.Write {
	return api.Write{Key: api.Key{Tenant: "t", Archive: archive, Entry: entry}, There: there, Data: data}
}

func someCommits() []api.Commit {
	return []api.Commit{
		{At: 1, Writes: []api.Write{write("x", "a", "one", true)}},
		{At: 9, Writes: []api.Write{write("x", "a", "", true)}},
		{At: 10, Writes: []api.Write{write("x", "a", "", false)}},
		{At: math.MaxInt, Writes: []api.Write{write("x", "a", "=", true), write("x", "b", "==", true), write("y", "a", "", false)}},
		{At: 123, Writes: []api.Write{write(strings.Repeat("x", 16), strings.Repeat("n", 64), strings.Repeat("\xff\x00", 4096), true)}},
	}
}

func TestWhatIsPackedIsUnpacked(t *testing.T) {
	for _, c := range someCommits() {
		record := packed(c)
		if got, whole := unpacked(record); !whole || !reflect.DeepEqual(got, c) {
			t.Errorf("%.200q: %v, %.200s", record, whole, fmt.Sprintf("%+v", got))
		}
		// With numbers of more digits than MaxTime's no commit comes.
		if c.At < math.MaxInt && len(record) > weight(c) {
			t.Errorf("%d bytes weigh %d", len(record), weight(c))
		}
	}
	lightest := api.Commit{At: 4294967296, Writes: []api.Write{write("x", "a", "", true)}}
	if n := len(packed(lightest)); n > weight(lightest) {
		t.Errorf("%d bytes weigh %d", n, weight(lightest))
	}
}

// A record that is cut off is another commit's, if it ends behind a write; else it is none's.
func TestRecordsThatAreCutOff(t *testing.T) {
	for _, c := range someCommits() {
		record := packed(c)
		for n := range min(len(record), 300) {
			got, whole := unpacked(record[:n])
			if whole && (got.At != c.At || len(got.Writes) >= len(c.Writes) || !slices.Equal(got.Writes, c.Writes[:len(got.Writes)])) {
				t.Errorf("%d bytes of %.200q: %+v", n, record, got)
			}
		}
	}
}

func TestRowsOfAnyBytes(t *testing.T) {
	x := rand.New(rand.NewPCG(1, 21))
	for range 20000 {
		b := make([]byte, x.IntN(40))
		for i := range b {
			b[i] = byte(x.IntN(3))
			if x.IntN(9) == 0 {
				b[i] = byte(x.IntN(256))
			}
		}
		unpacked(string(b))
		unfolded([]api.Archive{{Tenant: "-00", Name: "00", Entries: []api.Entry{{Name: "00", Data: string(b)}}}})
	}
}

// many is a state of so many tenants with a few archives of some entries each.
func many(tenants, archives, entries int, data func(i int) string) []api.Archive {
	var l []api.Archive
	for i := range tenants {
		for j := range archives {
			a := api.Archive{Tenant: fmt.Sprint("t", 10+i), Name: fmt.Sprint("x", 10+j)}
			for k := range entries {
				a.Entries = append(a.Entries, api.Entry{Name: fmt.Sprint("e", 10+k), Data: data(i + j + k)})
			}
			l = append(l, a)
		}
	}
	return l
}

func TestStatesOfMoreTenantsThanAShelfTakes(t *testing.T) {
	x := rand.New(rand.NewPCG(2, 21))
	noise := func(int) string {
		b := make([]byte, 8192)
		for i := range b {
			b[i] = byte(x.Uint32())
		}
		return string(b)
	}
	states := [][]api.Archive{
		nil,
		many(8, 2, 2, func(i int) string { return fmt.Sprint(i) }),
		many(9, 1, 1, func(i int) string { return fmt.Sprint(i) }),
		many(20, 16, 3, func(i int) string { return strings.Repeat("s", i) }),
		many(9, 2, 5, noise),
		many(9, 3, 40, noise), // more pieces than one tenant of the folded list has place for
		{{Tenant: "-00", Name: "00", Entries: []api.Entry{{Name: "00", Data: "looks folded"}}}},
		{{Tenant: "-00", Name: "x", Entries: []api.Entry{{Name: "a"}}}, {Tenant: "a", Name: "x", Entries: []api.Entry{{Name: "a"}}}},
		{{Tenant: "-", Name: "x", Entries: []api.Entry{{Name: "a"}}}, {Tenant: "-00", Name: "x", Entries: []api.Entry{{Name: "a"}}}},
	}
	for i, l := range states {
		out := shelved(l)
		if e := shelf.Check(out); e != api.OK {
			t.Errorf("state %d: no shelf takes it: %d", i, e)
		}
		back, whole := unshelved(out)
		if !whole || len(back) != len(l) || len(l) > 0 && !reflect.DeepEqual(back, l) {
			t.Errorf("state %d: %v, another one comes back", i, whole)
		}
		bytes, most := 0, 1000
		for _, a := range out {
			for _, x := range a.Entries {
				bytes += len(x.Data)
			}
		}
		for _, a := range l {
			most += 300
			for _, x := range a.Entries {
				most += 300 + len(x.Data)
			}
		}
		if bytes > most {
			t.Errorf("state %d: %d bytes, above %d", i, bytes, most)
		}
	}
	if l := states[1]; !reflect.DeepEqual(shelved(l), l) {
		t.Error("a state that a shelf takes is folded")
	}
}

func TestFoldedListsThatAreSpoilt(t *testing.T) {
	row := func(cut int, texts ...string) []api.Archive {
		put, all := writer()
		for _, x := range texts {
			put(x)
		}
		data := string(all()[cut:])
		return []api.Archive{{Tenant: "-00", Name: "00", Entries: []api.Entry{{Name: "00", Data: data}}}}
	}
	file, _ := zip.Write([]api.Entry{{Name: "a", Data: "text"}})
	if l, whole := unshelved(row(0, "t", "x", string(file))); !whole || len(l) != 1 || len(l[0].Entries) != 1 {
		t.Errorf("%v, %+v", whole, l)
	}
	spoilt := [][]api.Archive{
		row(0, "t"),
		row(0, "t", "x"),
		row(0, "t", "x", "no file"),
		row(0, "t", "x", string(file[1:])),
		row(0, "t", "x", string(file), "t"),
		row(0, "t", "x", string(file), "t", "y", "no file"),
		row(1, "t", "x", string(file)),
	}
	for i, l := range spoilt {
		if _, whole := unshelved(l); whole {
			t.Errorf("list %d is taken", i)
		}
	}
}

func TestPlacesRise(t *testing.T) {
	for n := 1; n < 100; n++ {
		if place(n-1) >= place(n) || len(place(n)) != 2 {
			t.Errorf("%q, %q", place(n-1), place(n))
		}
	}
}
