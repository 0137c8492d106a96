package rowan_test

import (
	"strings"
	"testing"

	"rowan/api"
	"rowan/file"
	"rowan/rowan"
)

func wantNotOpened(t *testing.T, name string, f *file.File, should api.Errno) {
	t.Helper()
	if db, e := rowan.Open(f); db != nil || e != should {
		t.Errorf("P6: %s: Open = %v, %d, want %d", name, db, e, should)
	}
}

func TestOpenOfNoFile(t *testing.T) {
	dead := file.New(api.MinPages - 1)
	dead.Die(0)
	for name, f := range map[string]*file.File{
		"nil": nil, "a file that was not made": {}, "no pages": file.New(0), "pages below 0": file.New(-1),
		"one page": file.New(1), "one too few": file.New(api.MinPages - 1), "one too few, dead": dead,
	} {
		wantNotOpened(t, name, f, api.ErrArg)
	}
}

func TestNewFile(t *testing.T) {
	for _, pages := range []int{api.MinPages, api.MinPages + 1, api.MaxPages, api.MaxPages + 1} {
		f := file.New(pages)
		wantSure(t, opened(t, f), 0, nil)
		wantSure(t, opened(t, f), 0, nil)
	}
}

// TestVersionCounts: P6 and P11, the version tells how many commits have changed something, and nothing else counts.
func TestVersionCounts(t *testing.T) {
	db := fresh(t, 60)
	version := func(what string, should int) {
		t.Helper()
		if v := db.Version(); v != should {
			t.Errorf("P6: Version() behind %s = %d, want %d", what, v, should)
		}
	}
	tx := begun(t, db, true)
	version("Begin", 0)
	put(t, db, tx, "a", "x")
	version("Put", 0)
	committed(t, db, tx)
	version("a Commit", 1)
	commitPairs(t, db)
	version("a Commit of nothing", 1)
	committed(t, db, begun(t, db, false))
	version("a Commit of one that reads", 1)
	commitPairs(t, db, "a", "x")
	version("a Commit of what was there", 2)
	tx = begun(t, db, true)
	put(t, db, tx, "b", "y")
	deleted(t, db, tx, "b")
	committed(t, db, tx)
	version("a Commit of what is gone again", 3)
	tx = begun(t, db, true)
	put(t, db, tx, "b", "y")
	want(t, "P11: Abort", db.Abort(tx), api.OK)
	version("Abort", 3)
	first, second := begun(t, db, true), begun(t, db, true)
	deleted(t, db, first, "a")
	put(t, db, second, "a", "z")
	committed(t, db, first)
	want(t, "P11: Commit", db.Commit(second), api.ErrConflict)
	version("a Commit that was refused", 4)
	tx = begun(t, db, true)
	want(t, "P10: Delete", db.Delete(tx, "none"), api.ErrNone)
	want(t, "P10: Put", db.Put(tx, "", ""), api.ErrArg)
	committed(t, db, tx)
	version("a Commit of what was refused", 4)
	wantSure(t, db, 4, nil)
}

// TestFoundAgain: P6, Open finds what is sure, and no transaction.
func TestFoundAgain(t *testing.T) {
	f := file.New(400)
	all := map[string]string{}
	for i := range 12 {
		db := opened(t, f)
		wantSure(t, db, i, all)
		for tx := range 4 {
			want(t, "P6: Abort of one that was open ahead of Open", db.Abort(tx), api.ErrHandle)
		}
		lost := begun(t, db, true)
		put(t, db, lost, "lost", "x")
		key := strings.Repeat(string(rune('a'+i)), 1+2*i)
		all[key] = strings.Repeat("v", 35*i)
		commitPairs(t, db, key, all[key])
	}
	wantSure(t, opened(t, f.Copy()), 12, all)
	commitDelete(t, opened(t, f), "a", "ccccc")
	delete(all, "a")
	delete(all, "ccccc")
	wantSure(t, opened(t, f), 13, all)
}

// TestOpenOfNoStore: P1 and P6, a file that has something else in its first pages.
func TestOpenOfNoStore(t *testing.T) {
	f := file.New(40)
	commitPairs(t, opened(t, f), "a", "x")
	commitPairs(t, opened(t, f), "a", "y")
	for at := range api.PageSize {
		g := f.Copy()
		g.Spoil(0, at, 1)
		g.Spoil(1, at, 128)
		wantNotOpened(t, "both first pages are turned", g, api.ErrCorrupt)
		g.Die(0)
		wantNotOpened(t, "and the file is dead", g, api.ErrDisk)
	}
	leaf, _ := f.Read(2)
	g := f.Copy()
	g.Write(0, leaf)
	g.Write(1, leaf)
	wantNotOpened(t, "both first pages are leaves", g, api.ErrCorrupt)
}
