package rowan_test

import (
	"math"
	"math/rand"
	"slices"
	"testing"

	"rowan/api"
	"rowan/file"
	"rowan/page"
	"rowan/rowan"
)

// anyPage is a page of any kind that is right by itself, for the most part, but tells whatever comes.
func anyPage(r *rand.Rand, pages int) string {
	place := func() int { return 2 + r.Intn(pages-2) }
	keys := []string{"a", "b", "c", "d", "e", "f", "g", "h"}
	keys = keys[r.Intn(4) : 4+r.Intn(5)]
	p := api.Page{Kind: oneOf(r, api.Branch, api.Branch, api.Leaf, api.Leaf, api.Over)}
	switch p.Kind {
	case api.Branch:
		p.Keys = keys
		for range len(keys) + 1 {
			p.Kids = append(p.Kids, place())
		}
	case api.Leaf:
		for _, key := range keys {
			entry := api.Entry{Key: key, Value: "x", Size: 1}
			if r.Intn(3) == 0 {
				entry = api.Entry{Key: key, Size: oneOf(r, 61, 240, 241, 400), Over: place()}
			}
			p.Entries = append(p.Entries, entry)
		}
	case api.Over:
		p.Next = oneOf(r, 0, place())
		p.Data = longest[:oneOf(r, 1, 61, 160, 240)]
	}
	s, _ := page.Encode(p)
	return s
}

// anyFile is a file that this package has not written.
func anyFile(r *rand.Rand) *file.File {
	f := file.New(api.MinPages)
	for place := range f.Pages() {
		f.Write(place, anyPage(r, f.Pages()+r.Intn(2)))
	}
	for place := range oneOf(r, 1, 2, 2, 2) {
		s, _ := page.Encode(api.Page{Kind: api.Meta, Version: oneOf(r, 0, 1, 2, math.MaxInt64-1, math.MaxInt64), Root: oneOf(r, 0, 2, 3, 4, 5, api.MaxPages-1)})
		f.Write(place, s)
	}
	return f
}

// wantEnds makes all calls of a store, which may answer what they will.
func wantEnds(db *rowan.DB) {
	db.Version()
	reads, _ := db.Begin(false)
	for range 4 {
		writes, _ := db.Begin(true)
		for _, key := range []string{"", "a", "b", "cc", "e", "h", "i", tooLong} {
			db.Get(reads, key)
			db.Delete(writes, key)
			db.Put(writes, key+"x", longest)
			db.Scan(reads, key, "", 3)
			for range db.Each(writes, "", key) {
				db.Version()
			}
		}
		db.Commit(writes)
	}
	db.Abort(reads)
}

// wantVaried: a trial is worth something only if it is refused at times, and at times not.
func wantVaried(t *testing.T, told []api.Errno) {
	t.Helper()
	slices.Sort(told)
	told = slices.Compact(told)
	if !slices.Contains(told, api.OK) || !slices.Contains(told, api.ErrCorrupt) {
		t.Errorf("P1: the trial answers %d alone", told)
	}
}

// lastCommit is what a store answers to a change.
func lastCommit(db *rowan.DB) api.Errno {
	tx, _ := db.Begin(true)
	db.Put(tx, "k", "v")
	return db.Commit(tx)
}

// TestAnyFile: P1, every call ends and none panics, whatever the file has.
func TestAnyFile(t *testing.T) {
	var told []api.Errno
	for seed := range int64(1000) {
		db, e := rowan.Open(anyFile(rand.New(rand.NewSource(seed))))
		if e == api.OK {
			wantEnds(db)
			e = lastCommit(db)
		}
		told = append(told, e)
	}
	wantVaried(t, told)
}

// TestAnyPages: P1, every call ends and none panics, whatever becomes of the pages of a store that is open.
func TestAnyPages(t *testing.T) {
	var told []api.Errno
	for seed := range int64(1000) {
		r := rand.New(rand.NewSource(seed))
		f := file.New(api.MinPages)
		db := opened(t, f)
		for i := range 3 {
			commitPairs(t, db, "a", longest[:i], "b", longest)
			begun(t, db, i > 0)
		}
		for place := 2; place < f.Pages(); place++ {
			f.Write(place, anyPage(r, f.Pages()+r.Intn(2)))
		}
		wantEnds(db)
		for tx := range 4 {
			db.Abort(tx)
		}
		told = append(told, lastCommit(db))
	}
	wantVaried(t, told)
}
