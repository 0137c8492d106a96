package rowan_test

import (
	"fmt"
	"testing"

	"rowan/api"
	"rowan/file"
	"rowan/rowan"
)

// everyCrash calls with a copy of a file behind each crash there may be, by which sectors of the first so many writes it keeps.
func everyCrash(t *testing.T, f *file.File, writes int, call func(torn *file.File)) {
	t.Helper()
	for bits := range 1 << (4 * writes) {
		keep := make([]int, 4*writes)
		for i := range keep {
			keep[i] = bits >> i & 1
		}
		torn := f.Copy()
		torn.Crash(keep)
		call(torn)
		if t.Failed() {
			t.Fatalf("behind a crash that keeps %d", keep)
		}
	}
}

// small is a store of a few pages, at a version, with a Commit about to be tried that writes no more than two pages at once.
func small(t *testing.T, version int, value string) (*file.File, *rowan.DB, int) {
	t.Helper()
	f := file.New(api.MinPages)
	db := opened(t, f)
	for i := range version {
		commitPairs(t, db, "a", fmt.Sprint(i+1))
	}
	tx := begun(t, db, true)
	put(t, db, tx, "a", value)
	return f, db, tx
}

// smallState is what a small store has at a version.
func smallState(version int) map[string]string {
	if version == 0 {
		return nil
	}
	return state("a", fmt.Sprint(version))
}

// wantEither: P12, a file has one of two states as a whole; the second, if it must be that.
func wantEither(t *testing.T, f *file.File, version int, value string, must bool) {
	t.Helper()
	db := opened(t, f)
	if must || db.Version() > version {
		wantSure(t, db, version+1, state("a", value))
	} else {
		wantSure(t, db, version, smallState(version))
	}
	wantStays(t, f, db.Version())
}

// wantStays: P12, nothing is left that another crash could take from what Open found, and the store can be changed on.
func wantStays(t *testing.T, f *file.File, found int) {
	t.Helper()
	f.Crash(nil)
	if v := opened(t, f).Version(); v != found {
		t.Errorf("P12: Version() = %d behind another crash, want %d", v, found)
	}
	commitPairs(t, opened(t, f), "b", "behind it")
	if v := opened(t, f).Version(); v != found+1 {
		t.Errorf("P12: Version() = %d behind another Commit, want %d", v, found+1)
	}
}

// tried is what Open gives: P6, nothing with ErrDisk, if a call of the file has failed or it is dead, else a store.
func tried(t *testing.T, f *file.File) *rowan.DB {
	t.Helper()
	failed := f.Failed()
	db, e := rowan.Open(f)
	if (e == api.ErrDisk) != (f.Dead() || f.Failed() > failed) || (e == api.OK) != (db != nil) {
		t.Errorf("P6, P12: Open = %v, %d; the file is dead: %v; calls that failed: %d", db, e, f.Dead(), f.Failed()-failed)
	}
	return db
}

// eachPlace runs a test for each version, value and place at which a file may fail or die in the Commit of a small store, and for some places behind it.
func eachPlace(t *testing.T, test func(t *testing.T, version int, value string, behind int)) {
	for version := range 4 {
		for _, value := range []string{"x", longest[:100]} {
			for behind := range 8 {
				name := fmt.Sprintf("version %d, %d bytes, behind %d calls", version, len(value), behind)
				t.Run(name, func(t *testing.T) { test(t, version, value, behind) })
			}
		}
	}
}

// TestEveryCrash: P12, whichever call of a Commit the file dies at, and whichever parts of what was not synced stay.
func TestEveryCrash(t *testing.T) {
	eachPlace(t, func(t *testing.T, version int, value string, behind int) {
		f, db, tx := small(t, version, value)
		f.Die(behind)
		e := db.Commit(tx)
		if e != api.OK && (e != api.ErrDisk || !f.Dead()) {
			t.Fatalf("P12: Commit = %d", e)
		}
		everyCrash(t, f, 2, func(torn *file.File) { wantEither(t, torn, version, value, e == api.OK) })
	})
}

// TestEveryCrashWithoutDeath: P12, a Commit in which a call fails, and a crash behind it, or none.
func TestEveryCrashWithoutDeath(t *testing.T) {
	eachPlace(t, func(t *testing.T, version int, value string, behind int) {
		f, db, tx := small(t, version, value)
		f.Fail(behind)
		e := db.Commit(tx)
		if (e == api.ErrDisk) != (f.Failed() > 0) {
			t.Fatalf("P12: Commit = %d, %d calls have failed", e, f.Failed())
		}
		if e == api.ErrDisk {
			wantEither(t, f.Copy(), version, value, false)
		}
		everyCrash(t, f, 2, func(torn *file.File) { wantEither(t, torn, version, value, e == api.OK) })
	})
}

// roughFiles is files that Open finds in order, with what was not synced, and with a page that was torn.
func roughFiles(t *testing.T, version int) map[string]*file.File {
	t.Helper()
	inOrder, _, _ := small(t, version, "x")
	files := map[string]*file.File{"in order": inOrder}
	for behind := range 4 {
		f, db, tx := small(t, version, "x")
		f.Fail(behind)
		want(t, "P12: Commit", db.Commit(tx), api.ErrDisk)
		name := fmt.Sprintf("a call failed behind %d", behind)
		files[name] = f
		for _, keep := range [][]int{{1}, {0, 0, 0, 1}} {
			torn := f.Copy()
			torn.Crash(keep)
			files[fmt.Sprint(name, ", torn: ", keep)] = torn
		}
	}
	return files
}

// eachOpen runs a test with a file of each kind, and for each place at which it may fail or die in Open.
func eachOpen(t *testing.T, test func(t *testing.T, f *file.File, version int, behind int)) {
	for version := range 3 {
		for kind, rough := range roughFiles(t, version) {
			for behind := range 5 {
				name := fmt.Sprintf("version %d, %s, behind %d calls of Open", version, kind, behind)
				t.Run(name, func(t *testing.T) { test(t, rough.Copy(), version, behind) })
			}
		}
	}
}

// TestOpenFails: P6 and P12, whichever call of Open fails, with any crash behind it, or none.
func TestOpenFails(t *testing.T) {
	eachOpen(t, func(t *testing.T, f *file.File, version int, behind int) {
		f.Fail(behind)
		db := tried(t, f)
		f.Fail(never)
		wantEither(t, f.Copy(), version, "x", db != nil && db.Version() > version)
		wantWholeBehindCrashes(t, f, db, version)
	})
}

// TestOpenDies: P6 and P12, whichever call of Open the file dies at, with any crash behind it.
func TestOpenDies(t *testing.T) {
	eachOpen(t, func(t *testing.T, f *file.File, version int, behind int) {
		f.Die(behind)
		db := tried(t, f)
		wantWholeBehindCrashes(t, f, db, version)
	})
}

// wantWholeBehindCrashes: P12, what Open gave is found behind any crash; if it gave nothing, one of two states as a whole.
func wantWholeBehindCrashes(t *testing.T, f *file.File, db *rowan.DB, version int) {
	t.Helper()
	everyCrash(t, f, 1, func(torn *file.File) {
		if db != nil && opened(t, torn).Version() != db.Version() {
			t.Errorf("P12: Open found the version %d, but not behind a crash", db.Version())
		}
		wantEither(t, torn, version, "x", false)
	})
}
