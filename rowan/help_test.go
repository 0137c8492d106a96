package rowan_test

import (
	"fmt"
	"maps"
	"slices"
	"strings"
	"testing"

	"rowan/api"
	"rowan/file"
	"rowan/rowan"
)

var (
	longKey  = strings.Repeat("k", api.MaxKey)
	tooLong  = longKey + "k"
	longest  = strings.Repeat("v", api.MaxValue)
	tooGreat = longest + "v"
)

// opened is the store of a file.
func opened(t *testing.T, f *file.File) *rowan.DB {
	t.Helper()
	db, e := rowan.Open(f)
	if db == nil || e != api.OK {
		t.Fatalf("P6: Open = %v, %d, want a store", db, e)
	}
	return db
}

// fresh is the store of a new file.
func fresh(t *testing.T, pages int) *rowan.DB {
	t.Helper()
	return opened(t, file.New(pages))
}

func begun(t *testing.T, db *rowan.DB, write bool) int {
	t.Helper()
	tx, e := db.Begin(write)
	if tx <= 0 || e != api.OK {
		t.Fatalf("P7: Begin(%v) = %d, %d, want a transaction", write, tx, e)
	}
	return tx
}

// want holds an answer without other results against what it should be.
func want(t *testing.T, what string, e api.Errno, should api.Errno) {
	t.Helper()
	if e != should {
		t.Errorf("%s = %d, want %d", what, e, should)
	}
}

func put(t *testing.T, db *rowan.DB, tx int, key string, value string) {
	t.Helper()
	want(t, fmt.Sprintf("P10: Put(%d, %q, %.20q)", tx, key, value), db.Put(tx, key, value), api.OK)
}

func deleted(t *testing.T, db *rowan.DB, tx int, key string) {
	t.Helper()
	want(t, fmt.Sprintf("P10: Delete(%d, %q)", tx, key), db.Delete(tx, key), api.OK)
}

func committed(t *testing.T, db *rowan.DB, tx int) {
	t.Helper()
	want(t, fmt.Sprintf("P11: Commit(%d)", tx), db.Commit(tx), api.OK)
}

// commitPairs makes sure of keys and values in one transaction.
func commitPairs(t *testing.T, db *rowan.DB, pairs ...string) {
	t.Helper()
	tx := begun(t, db, true)
	for i := 0; i < len(pairs); i += 2 {
		put(t, db, tx, pairs[i], pairs[i+1])
	}
	committed(t, db, tx)
}

func commitDelete(t *testing.T, db *rowan.DB, keys ...string) {
	t.Helper()
	tx := begun(t, db, true)
	for _, key := range keys {
		deleted(t, db, tx, key)
	}
	committed(t, db, tx)
}

// listed is a state as the list that Scan should give.
func listed(state map[string]string) []api.Pair {
	var list []api.Pair
	for _, key := range slices.Sorted(maps.Keys(state)) {
		list = append(list, api.Pair{Key: key, Value: state[key]})
	}
	return list
}

// state is keys and values as a map.
func state(pairs ...string) map[string]string {
	m := map[string]string{}
	for i := 0; i < len(pairs); i += 2 {
		m[pairs[i]] = pairs[i+1]
	}
	return m
}

// shown is a list for a test's report, cut where it is long.
func shown(list []api.Pair) string { return fmt.Sprintf("%d: %.400s", len(list), fmt.Sprint(list)) }

func wantScan(t *testing.T, db *rowan.DB, tx int, from string, to string, most int, should []api.Pair) {
	t.Helper()
	list, e := db.Scan(tx, from, to, most)
	if e != api.OK || !slices.Equal(list, should) {
		t.Errorf("P8: Scan(%d, %q, %q, %d) = %s, %d, want %s", tx, from, to, most, shown(list), e, shown(should))
	}
}

func wantGet(t *testing.T, db *rowan.DB, tx int, key string, value string, should api.Errno) {
	t.Helper()
	if v, e := db.Get(tx, key); v != value || e != should {
		t.Errorf("P8: Get(%d, %q) = %.20q, %d, want %.20q, %d", tx, key, v, e, value, should)
	}
}

func wantEach(t *testing.T, db *rowan.DB, tx int, from string, to string, should []api.Pair) {
	t.Helper()
	var list []api.Pair
	for key, value := range db.Each(tx, from, to) {
		list = append(list, api.Pair{Key: key, Value: value})
	}
	if !slices.Equal(list, should) {
		t.Errorf("P9: Each(%d, %q, %q) = %s, want %s", tx, from, to, shown(list), shown(should))
	}
}

// wantSeen: a transaction sees just this, whichever way it is asked.
func wantSeen(t *testing.T, db *rowan.DB, tx int, should map[string]string) {
	t.Helper()
	list := listed(should)
	wantScan(t, db, tx, "", "", 1<<40, list)
	wantEach(t, db, tx, "", "", list)
	for _, pair := range list {
		wantGet(t, db, tx, pair.Key, pair.Value, api.OK)
	}
}

// wantSure: just this is sure, with this version.
func wantSure(t *testing.T, db *rowan.DB, version int, should map[string]string) {
	t.Helper()
	if v := db.Version(); v != version {
		t.Errorf("P6: Version() = %d, want %d", v, version)
	}
	tx := begun(t, db, false)
	wantSeen(t, db, tx, should)
	want(t, "P11: Abort", db.Abort(tx), api.OK)
}

// numbered is so many keys of so many bytes, rising, each with the same value.
func numbered(many int, size int, value string) map[string]string {
	m := map[string]string{}
	for i := range many {
		m[fmt.Sprintf("%0*d", size, i)] = value
	}
	return m
}

// commitState makes sure of all keys and values of a state in one transaction.
func commitState(t *testing.T, db *rowan.DB, all map[string]string) {
	t.Helper()
	tx := begun(t, db, true)
	for _, pair := range listed(all) {
		put(t, db, tx, pair.Key, pair.Value)
	}
	committed(t, db, tx)
}
