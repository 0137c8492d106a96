package rowan_test

import (
	"iter"
	"slices"
	"testing"

	"rowan/api"
	"rowan/rowan"
)

// TestEachIsLeft: P9, it can be left early, any way, and ranged over again.
func TestEachIsLeft(t *testing.T) {
	db := fresh(t, 200)
	all := numbered(50, 5, "some value")
	commitState(t, db, all)
	tx := begun(t, db, false)
	each := db.Each(tx, "", "")
	for left := range 51 {
		n := 0
		for key, value := range each {
			if n == left {
				break
			}
			if should := listed(all)[n]; key != should.Key || value != should.Value {
				t.Errorf("P9: place %d of Each is %q, %q", n, key, value)
			}
			n++
		}
		if n != left {
			t.Errorf("P9: Each has %d, want %d", n, left)
		}
	}
	func() {
		defer func() { recover() }()
		for range each {
			panic("left by a panic")
		}
	}()
	wantSeen(t, db, tx, all)
}

// TestEachOfNow: P9, it tells what there is when it is ranged over, not when it was asked for.
func TestEachOfNow(t *testing.T) {
	db := fresh(t, 100)
	each := db.Each(1, "b", "d")
	if each == nil {
		t.Fatal("P9: Each = nil")
	}
	told := func(should ...string) {
		t.Helper()
		var keys []string
		for key := range each {
			keys = append(keys, key)
		}
		if !slices.Equal(keys, should) {
			t.Errorf("P9: Each = %q, want %q", keys, should)
		}
	}
	told()
	begun(t, db, true)
	told()
	for _, key := range []string{"a", "b", "c", "d"} {
		put(t, db, 1, key, "x")
	}
	told("b", "c")
	deleted(t, db, 1, "b")
	told("c")
	committed(t, db, 1)
	told()
}

// wantAllWorks calls every other method while an iterator is ranged over.
func wantAllWorks(t *testing.T, db *rowan.DB, seen map[string]string) {
	t.Helper()
	tx := begun(t, db, true)
	wantSeen(t, db, tx, seen)
	put(t, db, tx, "new", "x")
	wantGet(t, db, tx, "new", "x", api.OK)
	deleted(t, db, tx, "new")
	db.Version()
	want(t, "P11: Abort", db.Abort(tx), api.OK)
}

// TestMethodsWhileRanged: P9, other methods may be called; those that change nothing let it tell all.
func TestMethodsWhileRanged(t *testing.T) {
	db := fresh(t, 200)
	all := numbered(30, 5, longest[:70])
	commitState(t, db, all)
	tx := begun(t, db, true)
	var list []api.Pair
	for key, value := range db.Each(tx, "", "") {
		list = append(list, api.Pair{Key: key, Value: value})
		wantAllWorks(t, db, all)
		for inner := range db.Each(tx, key, "") {
			if inner != key {
				t.Errorf("P9: Each in an Each begins with %q, want %q", inner, key)
			}
			break
		}
	}
	if !slices.Equal(list, listed(all)) {
		t.Errorf("P9: Each = %s, want %s", shown(list), shown(listed(all)))
	}
}

// TestChangesWhileRanged: P9, its own changes, its end, and commits that write over what it stood in: nothing is told that never was, and the keys rise.
func TestChangesWhileRanged(t *testing.T) {
	for name, change := range map[string]func(db *rowan.DB, tx int, key string){
		"deletes":   func(db *rowan.DB, tx int, key string) { db.Delete(tx, key) },
		"puts":      func(db *rowan.DB, tx int, key string) { db.Put(tx, key, "new") },
		"puts more": func(db *rowan.DB, tx int, key string) { db.Put(tx, key+"x", "new") },
		"aborts":    func(db *rowan.DB, tx int, key string) { db.Abort(tx) },
		"commits":   func(db *rowan.DB, tx int, key string) { db.Put(tx, key, "new"); db.Commit(tx) },
	} {
		db := fresh(t, 120)
		all := numbered(20, 5, longest[:70])
		commitState(t, db, all)
		tx := begun(t, db, true)
		last, rounds := "", 0
		for key, value := range db.Each(tx, "", "") {
			if old, found := all[key]; key <= last || value != "new" && (!found || value != old) {
				t.Errorf("P9: while one %s, Each tells %q, %.20q behind %q", name, key, value, last)
			}
			last = key
			if rounds++; rounds > 500 {
				t.Fatalf("P9: while one %s, Each does not end", name)
			}
			change(db, tx, key)
			// Three commits by turns use all places that became free.
			for _, other := range []string{"1", "2", "3"} {
				commitPairs(t, db, "other", other)
			}
		}
		if rounds == 0 {
			t.Errorf("P9: while one %s, Each tells nothing", name)
		}
	}
}

// TestEachPulled: P9, two that are ranged over by turns.
func TestEachPulled(t *testing.T) {
	db := fresh(t, 100)
	commitPairs(t, db, "a", "1", "b", "2", "c", "3")
	one, two := begun(t, db, false), begun(t, db, true)
	put(t, db, two, "b", "own")
	nextOne, stopOne := iter.Pull2(db.Each(one, "", ""))
	nextTwo, stopTwo := iter.Pull2(db.Each(two, "b", ""))
	defer stopOne()
	defer stopTwo()
	for i, should := range []string{"a1bown", "b2c3", "c3"} {
		keyOne, valueOne, _ := nextOne()
		keyTwo, valueTwo, _ := nextTwo()
		if told := keyOne + valueOne + keyTwo + valueTwo; told != should {
			t.Errorf("P9: round %d tells %q, want %q", i, told, should)
		}
	}
}
