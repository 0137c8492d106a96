package rowan_test

import (
	"fmt"
	"slices"
	"testing"

	"rowan/api"
	"rowan/file"
	"rowan/rowan"
)

// someBytes are bytes of a page: the kind, fields, those behind them, and the check sum.
var someBytes = []int{0, 1, 2, 3, 9, 10, 63, 64, 130, 200, 251, 252, 255}

// eachTurned runs a test for each page of a forest, with a file of its own each time.
func eachTurned(t *testing.T, test func(t *testing.T, w *forest, place int)) {
	for commits := range 2 {
		for place := range planted(t, commits).f.Pages() {
			t.Run(fmt.Sprintf("page %d behind %d commits", place, commits), func(t *testing.T) {
				test(t, planted(t, commits), place)
			})
		}
	}
}

// TestOpenTurned: P14, Open tells ErrCorrupt of a byte that was turned in what is sure; else it finds that, and the store can be changed, whichever page it was. By one of the first two pages it may find what was sure ahead.
func TestOpenTurned(t *testing.T) {
	eachTurned(t, func(t *testing.T, w *forest, place int) {
		for i, at := range someBytes {
			f := w.f.Copy()
			f.Spoil(place, at, 1+at/2)
			db, e := rowan.Open(f)
			if w.last.stands(place) {
				if db != nil || e != api.ErrCorrupt {
					t.Errorf("P14: byte %d: Open = %v, %d, want ErrCorrupt", at, db, e)
				}
				continue
			}
			if db == nil || e != api.OK {
				t.Fatalf("P14: byte %d: Open = %v, %d, want a store", at, db, e)
			}
			found, version := w.last.state, w.version
			if place < 2 && db.Version() == w.version-1 {
				found, version = w.ahead.state, w.version-1
			}
			if v := db.Version(); v != version {
				t.Errorf("P14: byte %d: Version() = %d, want %d", at, v, version)
			}
			wantScan(t, db, begun(t, db, false), "", "", 1<<40, listed(found))
			if i == place%len(someBytes) {
				wantGoesOn(t, f, db, version, found)
			}
		}
	})
}

// TestOpenTurnedOfABadFile: P1, P6 and P14, that the file fails or is dead is told ahead of a page that is wrong.
func TestOpenTurnedOfABadFile(t *testing.T) {
	w := planted(t, 0)
	for place := range w.last.places {
		f := w.f.Copy()
		f.Spoil(place, 5, 1)
		f.Fail(0)
		wantNotOpened(t, "a file that fails", f, api.ErrDisk)
		wantNotOpened(t, "a file that has failed", f, api.ErrCorrupt)
		for _, behind := range []int{1, 0} {
			f.Die(behind)
			wantNotOpened(t, "a file that dies", f, api.ErrDisk)
		}
		f.Crash(nil)
		wantNotOpened(t, "a file that was dead", f, api.ErrCorrupt)
	}
}

// wantGoesOn: a store can be changed more than once, and what was made sure of is found.
func wantGoesOn(t *testing.T, f *file.File, db *rowan.DB, version int, found map[string]string) {
	t.Helper()
	for i := range 3 {
		changes := state("goes on", fmt.Sprint(i), fmt.Sprint(i), longest[:i*70])
		commitState(t, db, changes)
		found = merged(found, changes)
		wantSure(t, opened(t, f.Copy()), version+1+i, found)
	}
	wantSure(t, db, version+3, found)
}

// TestReadTurned: P14, Get, Scan and Delete answer what they should, or ErrCorrupt; and ErrCorrupt only if the page is one that the transaction's tree has.
func TestReadTurned(t *testing.T) {
	eachTurned(t, func(t *testing.T, w *forest, place int) {
		w.f.Spoil(place, place%api.PageSize, 255)
		w.wantReads(t, w.early, w.old, place)
		w.wantReads(t, w.late, w.last, place)
		w.wantDeletes(t, place)
		w.f.Spoil(place, place%api.PageSize, 255)
		wantSeen(t, w.db, w.early, w.old.state)
		wantSeen(t, w.db, w.late, w.last.state)
	})
}

// wantCorruptIn is whether a call told ErrCorrupt, which it may if the page is one of the tree.
func wantCorruptIn(t *testing.T, name string, e api.Errno, g grove, place int) bool {
	t.Helper()
	if e == api.ErrCorrupt && !g.stands(place) {
		t.Errorf("P14: %s = ErrCorrupt, but the page is none of its tree", name)
	}
	return e == api.ErrCorrupt
}

func (w *forest) wantReads(t *testing.T, tx int, g grove, place int) {
	t.Helper()
	should := listed(g.state)
	list, e := w.db.Scan(tx, "", "", 1<<40)
	if corrupt := wantCorruptIn(t, "Scan", e, g, place); corrupt != g.stands(place) || corrupt && len(list) != 0 || !corrupt && (e != api.OK || !slices.Equal(list, should)) {
		t.Errorf("P14: Scan = %s, %d, want %s", shown(list), e, shown(should))
	}
	corrupt := 0
	for _, pair := range append(should, api.Pair{Key: "none"}) {
		answer := api.OK
		if pair.Key == "none" {
			answer = api.ErrNone
		}
		value, e := w.db.Get(tx, pair.Key)
		if wantCorruptIn(t, "Get", e, g, place) {
			corrupt++
			pair.Value, answer = "", api.ErrCorrupt
		}
		if value != pair.Value || e != answer {
			t.Errorf("P14: Get(%q) = %.20q, %d, want %.20q, %d", pair.Key, value, e, pair.Value, answer)
		}
	}
	if corrupt == 0 && g.stands(place) {
		t.Errorf("P14: no Get tells ErrCorrupt, but the page is one of its tree")
	}
	wantBegin(t, w.db, tx, should)
}

// wantBegin: P9 and P14, Each tells what it should, but may end early.
func wantBegin(t *testing.T, db *rowan.DB, tx int, should []api.Pair) {
	t.Helper()
	n := 0
	for key, value := range db.Each(tx, "", "") {
		if n >= len(should) || should[n] != (api.Pair{Key: key, Value: value}) {
			t.Errorf("P9, P14: place %d of Each is %q, %.20q", n, key, value)
		}
		n++
	}
}

// wantDeletes: P10 and P14, a Delete that told ErrCorrupt has done nothing, and one of an own change does not need the file.
func (w *forest) wantDeletes(t *testing.T, place int) {
	t.Helper()
	for _, pair := range append(listed(w.last.state), api.Pair{Key: "none"}) {
		tx := begun(t, w.db, true)
		should := api.OK
		if pair.Key == "none" {
			should = api.ErrNone
		}
		e := w.db.Delete(tx, pair.Key)
		if wantCorruptIn(t, "Delete", e, w.last, place) {
			// Nothing was changed, so there is nothing to make sure of.
			want(t, "P11, P14: Commit", w.db.Commit(tx), api.OK)
			continue
		}
		want(t, "P10, P14: Delete", e, should)
		put(t, w.db, tx, pair.Key, "own")
		wantGet(t, w.db, tx, pair.Key, "own", api.OK)
		deleted(t, w.db, tx, pair.Key)
		wantGet(t, w.db, tx, pair.Key, "", api.ErrNone)
		want(t, "P10: Delete once more", w.db.Delete(tx, pair.Key), api.ErrNone)
		want(t, "P11: Abort", w.db.Abort(tx), api.OK)
	}
	if v := w.db.Version(); v != w.version {
		t.Errorf("P6: Version() = %d, want %d", v, w.version)
	}
}

// TestCommitTurned: P14, a Commit that has something to make sure of is done, or it tells ErrCorrupt, and nothing is done then; it tells so of a page that it may not lose.
func TestCommitTurned(t *testing.T) {
	eachTurned(t, func(t *testing.T, w *forest, place int) {
		one, twin := begun(t, w.db, true), begun(t, w.db, true)
		changes := state("long", "short", "own", longest)
		for _, pair := range listed(changes) {
			put(t, w.db, one, pair.Key, pair.Value)
			put(t, w.db, twin, pair.Key, pair.Value)
		}
		w.f.Spoil(place, 255-place, 8)
		was := bytesOf(w.f)
		e := w.db.Commit(one)
		if !w.needed(place) {
			want(t, "P14: Commit", e, api.OK)
			want(t, "P11: Commit of one that conflicts", w.db.Commit(twin), api.ErrConflict)
		} else {
			want(t, "P14: Commit", e, api.ErrCorrupt)
			want(t, "P11, P14: Commit of one that was committed", w.db.Commit(one), api.ErrHandle)
			if v := w.db.Version(); v != w.version || !slices.Equal(bytesOf(w.f), was) {
				t.Errorf("P14: Version() = %d, or the file is another one, behind a Commit that told ErrCorrupt", v)
			}
			w.f.Spoil(place, 255-place, 8)
			wantSure(t, w.db, w.version, w.last.state)
			wantSure(t, opened(t, w.f.Copy()), w.version, w.last.state)
			// Nor does it keep another one from the same keys.
			committed(t, w.db, twin)
		}
		wantSeen(t, w.db, w.early, w.old.state)
		wantSeen(t, w.db, w.late, w.last.state)
		wantSure(t, w.db, w.version+1, merged(w.last.state, changes))
		wantSure(t, opened(t, w.f), w.version+1, merged(w.last.state, changes))
	})
}

// TestOtherCallsTurned: P14, all other calls answer what they should, and so do those that are refused for what they were given.
func TestOtherCallsTurned(t *testing.T) {
	eachTurned(t, func(t *testing.T, w *forest, place int) {
		refused, writes := begun(t, w.db, true), begun(t, w.db, true)
		put(t, w.db, refused, "a", "x")
		commitPairs(t, w.db, "a", "y")
		w.f.Spoil(place, 17, 1)
		want(t, "P10: Put", w.db.Put(writes, "b", longest), api.OK)
		want(t, "P10: Put of no key", w.db.Put(writes, "", ""), api.ErrArg)
		want(t, "P10: Put of no value", w.db.Put(writes, "b", tooGreat), api.ErrArg)
		want(t, "P10: Put of one that reads", w.db.Put(w.late, "b", ""), api.ErrRead)
		want(t, "P10: Delete of no key", w.db.Delete(writes, tooLong), api.ErrArg)
		want(t, "P10: Delete of one that reads", w.db.Delete(w.late, "b"), api.ErrRead)
		want(t, "P10: Delete of none", w.db.Delete(99, "b"), api.ErrHandle)
		wantGet(t, w.db, w.late, "", "", api.ErrArg)
		wantGet(t, w.db, 99, "a", "", api.ErrHandle)
		wantGet(t, w.db, writes, "b", longest, api.OK)
		wantNoScan(t, w.db, w.late, tooLong, 1, api.ErrArg)
		wantNoScan(t, w.db, w.late, "", -1, api.ErrArg)
		wantNoScan(t, w.db, 99, "", 1, api.ErrHandle)
		if v := w.db.Version(); v != w.version+1 {
			t.Errorf("P6: Version() = %d, want %d", v, w.version+1)
		}
		orCorrupt(t, "Commit of one that conflicts", w.db.Commit(refused), api.ErrConflict)
		want(t, "P11: Commit of none", w.db.Commit(99), api.ErrHandle)
		want(t, "P11: Abort of none", w.db.Abort(99), api.ErrHandle)
		want(t, "P11: Abort", w.db.Abort(writes), api.OK)
		want(t, "P11: Commit of one that reads", w.db.Commit(w.late), api.OK)
		var all []int
		for range api.MaxSlots - 1 {
			all = append(all, begun(t, w.db, true))
		}
		if tx, e := w.db.Begin(true); tx != 0 || e != api.ErrSlots {
			t.Errorf("P7: Begin of one too many = %d, %d", tx, e)
		}
		for _, tx := range all {
			want(t, "P11: Commit of one that changed nothing", w.db.Commit(tx), api.OK)
		}
	})
}

func wantNoScan(t *testing.T, db *rowan.DB, tx int, from string, most int, should api.Errno) {
	t.Helper()
	if list, e := db.Scan(tx, from, "", most); len(list) != 0 || e != should {
		t.Errorf("P8: Scan(%d, %.9q, %d) = %s, %d, want %d", tx, from, most, shown(list), e, should)
	}
}
