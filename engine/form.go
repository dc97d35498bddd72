package engine

import (
	"slices"
	"strconv"
	"strings"

	"haversack/api"
	"haversack/little"
	"haversack/shelf"
	"haversack/zip"
)

// Commits and states stand on the disk as rows of texts, each behind its length.
const lengthBytes = 4

// there is what the text of an entry's data begins with. That of an entry that is gone is empty.
const there = "="

// packed is a commit as a record: its number, its tenant, whose all its writes are, and of each write the archive, the
// entry and the data. It has no more bytes than the commit weighs, so that no commit which is not too heavy is too long
// for the log.
func packed(c api.Commit) string {
	put, all := writer()
	put(strconv.Itoa(c.At))
	put(c.Writes[0].Key.Tenant)
	for _, w := range c.Writes {
		put(w.Key.Archive)
		put(w.Key.Entry)
		if w.There {
			put(there + w.Data)
		} else {
			put("")
		}
	}
	return string(all())
}

// unpacked tells a record's commit, if it is one's.
func unpacked(record string) (c api.Commit, whole bool) {
	take, left := reader([]byte(record))
	at, err := strconv.Atoi(take())
	tenant := take()
	c.At = at
	for left() > 0 {
		k := api.Key{Tenant: tenant, Archive: take(), Entry: take()}
		text := take()
		c.Writes = append(c.Writes, api.Write{Key: k, There: text != "", Data: strings.TrimPrefix(text, there)})
	}
	return c, err == nil && left() == 0
}

// fold is what the tenants' names of a folded list begin with.
const fold = "-"

// shelved is a state as a list that a shelf takes: itself, if that is one. But a shelf has place for archives of 8
// tenants, and a state may have more, if engines for others were opened on the disk ahead: then it is folded. So is one
// that would be taken for a folded list.
func shelved(l []api.Archive) []api.Archive {
	if shelf.Check(l) == api.OK && !isFolded(l) {
		return l
	}
	return folded(l)
}

// unshelved tells the state of which a list is what shelved makes, if it is one's.
func unshelved(l []api.Archive) (state []api.Archive, whole bool) {
	if isFolded(l) {
		return unfolded(l)
	}
	return l, true
}

func isFolded(l []api.Archive) bool { return len(l) > 0 && l[0].Tenant == fold+place(0) }

// folded lays a state as one row: archive by archive the tenant, the name and a zip file. The row is cut in pieces, which
// stand as the entries, 64 in each of as many archives, 16 of each of as many tenants, as it takes.
func folded(l []api.Archive) []api.Archive {
	put, all := writer()
	for _, a := range l {
		file, _ := zip.Write(a.Entries) // an error there is none, as they stand in a state
		put(a.Tenant)
		put(a.Name)
		put(string(file))
	}
	var out []api.Archive
	i := 0
	for piece := range slices.Chunk(all(), api.MaxData) {
		box := i / api.MaxEntries
		if i%api.MaxEntries == 0 {
			out = append(out, api.Archive{Tenant: fold + place(box/api.MaxArchives), Name: place(box % api.MaxArchives)})
		}
		a := &out[box]
		a.Entries = append(a.Entries, api.Entry{Name: place(i % api.MaxEntries), Data: string(piece)})
		i++
	}
	return out
}

// unfolded tells the state of which a list is what folded makes, if it is one's.
func unfolded(l []api.Archive) (state []api.Archive, whole bool) {
	var row []byte
	for _, w := range writesOf(l) {
		row = append(row, w.Data...)
	}
	take, left := reader(row)
	for left() > 0 {
		a := api.Archive{Tenant: take(), Name: take()}
		entries, e := zip.Read([]byte(take()))
		if e != api.OK {
			return nil, false
		}
		a.Entries = entries
		state = append(state, a)
	}
	return state, left() == 0
}

// place is a name for what stands at a place below 100, so that names rise as places do.
func place(n int) string { return string([]byte{'0' + byte(n/10), '0' + byte(n%10)}) }

// writer tells two calls on a row of texts: put lays one more behind the others; all tells the row.
func writer() (put func(text string), all func() []byte) {
	var row []byte
	put = func(text string) {
		row = append(row, little.Put32(nil, uint32(len(text)))...)
		row = append(row, text...)
	}
	return put, func() []byte { return row }
}

// reader tells two calls on a row of texts: take tells the next one; left tells how many bytes stand behind those that
// were taken, or -1, once one of them was not whole.
func reader(row []byte) (take func() string, left func() int) {
	spoilt := false
	take = func() string {
		n, e := little.Get32(row, 0)
		if e != api.OK || uint64(n) > uint64(len(row)-lengthBytes) {
			row, spoilt = nil, true
			return ""
		}
		end := lengthBytes + int(n)
		text := string(row[lengthBytes:end])
		row = row[end:]
		return text
	}
	left = func() int {
		if spoilt {
			return -1
		}
		return len(row)
	}
	return take, left
}
