package rowan_test

import (
	"fmt"
	"testing"

	"rowan/api"
	"rowan/file"
)

// wantNear: P14, Open finds the last version of a small store, or one of those that are named beside it, as a whole; which one it is.
func wantNear(t *testing.T, f *file.File, states map[int]map[string]string) int {
	t.Helper()
	db := opened(t, f)
	should, may := states[db.Version()]
	if !may {
		t.Fatalf("P14: Version() = %d, want one of %v", db.Version(), states)
	}
	wantSure(t, db, db.Version(), should)
	return db.Version()
}

// fallback is what Open may find in a small store, if one of the first two pages was turned.
func fallback(version int) map[int]map[string]string {
	states := map[int]map[string]string{version: smallState(version)}
	if version > 0 {
		states[version-1] = smallState(version - 1)
	}
	return states
}

// TestFirstPages: P14, whichever byte of the first two pages is turned, in whichever version, there is a store, and one goes on from it.
func TestFirstPages(t *testing.T) {
	for version := range 5 {
		whole, _, _ := small(t, version, "x")
		for place := range 2 {
			for at := range api.PageSize {
				for _, by := range []int{1, 128, 255} {
					f := whole.Copy()
					f.Spoil(place, at, by)
					found := wantNear(t, f.Copy(), fallback(version))
					db := opened(t, f)
					commitPairs(t, db, "a", "on")
					commitPairs(t, db, "b", longest)
					wantSure(t, opened(t, f), found+2, state("a", "on", "b", longest))
					if t.Failed() {
						t.Fatalf("version %d, page %d, byte %d, by %d", version, place, at, by)
					}
				}
			}
		}
	}
}

// eachFirst runs a test for versions of a small store, bytes of the first two pages in each part that a crash may lose, and places at which the file may fail or die then.
func eachFirst(t *testing.T, test func(t *testing.T, version int, turn func(f *file.File), hit func(f *file.File))) {
	for version := range 4 {
		for n := range 2 * len(someBytes) {
			place, at := n%2, someBytes[n/2]
			for behind := range 6 {
				for _, dies := range []bool{false, true} {
					t.Run(fmt.Sprintf("version %d, page %d, byte %d, behind %d calls, dies: %v", version, place, at, behind, dies), func(t *testing.T) {
						turn := func(f *file.File) { f.Spoil(place, at, 16) }
						test(t, version, turn, func(f *file.File) { (&scene{f: f}).hit(dies, behind) })
					})
				}
			}
		}
	}
}

// TestFirstPagesAndOpenFails: P6, P12 and P14, whichever call of Open fails then, with any crash behind it.
func TestFirstPagesAndOpenFails(t *testing.T) {
	eachFirst(t, func(t *testing.T, version int, turn, hit func(f *file.File)) {
		f, _, _ := small(t, version, "x")
		turn(f)
		hit(f)
		db := tried(t, f)
		f.Fail(never)
		everyCrash(t, f, 1, func(torn *file.File) {
			found := wantNear(t, torn, fallback(version))
			if db != nil && found != db.Version() {
				t.Errorf("P12: Open found the version %d, and %d behind a crash", db.Version(), found)
			}
			wantStays(t, torn, found)
		})
	})
}

// TestFirstPagesAndCommitFails: P12 and P14, a store that goes on from what Open found, whichever call of a Commit fails then, with any crash behind it.
func TestFirstPagesAndCommitFails(t *testing.T) {
	eachFirst(t, func(t *testing.T, version int, turn, hit func(f *file.File)) {
		f, _, _ := small(t, version, "x")
		turn(f)
		db := opened(t, f)
		found := db.Version()
		tx := begun(t, db, true)
		put(t, db, tx, "a", "on")
		hit(f)
		e := db.Commit(tx)
		if e != api.OK && (e != api.ErrDisk || f.Failed() == 0 && !f.Dead()) {
			t.Fatalf("P12, P14: Commit = %d", e)
		}
		states := map[int]map[string]string{found + 1: state("a", "on")}
		if e != api.OK {
			states[found] = smallState(found)
		}
		everyCrash(t, f, 1, func(torn *file.File) { wantStays(t, torn, wantNear(t, torn, states)) })
	})
}

// TestFirstPagesWhileOpen: P12 and P14, a store that is open when the byte is turned, whichever call of a Commit fails then, with any crash behind it.
func TestFirstPagesWhileOpen(t *testing.T) {
	corrupt := 0
	eachFirst(t, func(t *testing.T, version int, turn, hit func(f *file.File)) {
		f, db, tx := small(t, version, "on")
		turn(f)
		hit(f)
		e := db.Commit(tx)
		states := fallback(version)
		switch e {
		case api.OK:
			states = map[int]map[string]string{version + 1: state("a", "on")}
		case api.ErrDisk:
			states[version+1] = state("a", "on")
		case api.ErrCorrupt:
			corrupt++
		default:
			t.Errorf("P12, P14: Commit = %d", e)
		}
		everyCrash(t, f, 1, func(torn *file.File) { wantStays(t, torn, wantNear(t, torn, states)) })
	})
	if corrupt == 0 {
		t.Error("P14: no Commit told ErrCorrupt: the trial does not reach it")
	}
}

// TestFirstPagesBehindACrash: P12 and P14, what was sure ahead is whole, also behind a Commit that was cut off, with any crash behind it, and an Open.
func TestFirstPagesBehindACrash(t *testing.T) {
	eachPlace(t, func(t *testing.T, version int, value string, behind int) {
		f, db, tx := small(t, version, value)
		f.Die(behind)
		db.Commit(tx)
		everyCrash(t, f, 1, func(torn *file.File) {
			states := fallback(version)
			if opened(t, torn).Version() > version {
				states = map[int]map[string]string{version: smallState(version), version + 1: state("a", value)}
			}
			for place := range 2 {
				turned := torn.Copy()
				turned.Spoil(place, 11, 1)
				wantStays(t, turned, wantNear(t, turned, states))
			}
		})
	})
}

// TestAheadTurnedAndOpenFails: P12 and P14, a byte of what was sure ahead alone is turned: what is sure is found, whichever call of Open fails then, with any crash behind it.
func TestAheadTurnedAndOpenFails(t *testing.T) {
	for commits := range 2 {
		w := planted(t, commits)
		tried, mended := map[int]bool{}, 0
		for place, kind := range w.ahead.places {
			if w.last.stands(place) || tried[kind] {
				continue
			}
			tried[kind] = true
			for behind := range 5 {
				for _, dies := range []bool{false, true} {
					f := w.f.Copy()
					f.Spoil(place, 99, 1)
					(&scene{f: f}).hit(dies, behind)
					w.wantLast(t, f)
				}
			}
			mended++
		}
		if mended != 3 {
			t.Errorf("%d kinds of pages were turned, want 3", mended)
		}
	}
}

// wantLast: Open of a file, which may fail, finds what is sure, also behind any crash, and one goes on from it.
func (w *forest) wantLast(t *testing.T, f *file.File) {
	t.Helper()
	if db := tried(t, f); db != nil {
		wantSure(t, db, w.version, w.last.state)
	}
	everyCrash(t, f, 1, func(torn *file.File) {
		db := opened(t, torn)
		wantScan(t, db, begun(t, db, false), "", "", 1<<40, listed(w.last.state))
		wantStays(t, torn, w.version)
	})
}
