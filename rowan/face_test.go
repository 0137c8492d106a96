package rowan_test

import (
	"fmt"
	"sync"
	"testing"
	"unsafe"

	"rowan/api"
	"rowan/file"
)

// spend writes over all of a list, and over its spare room.
func spend(list []api.Pair) {
	list = list[:cap(list)]
	for i := range list {
		list[i] = api.Pair{Key: "spent", Value: "spent"}
	}
}

// TestListsAreNew: P2, who writes into what Scan gave changes nothing else.
func TestListsAreNew(t *testing.T) {
	db := fresh(t, 100)
	all := numbered(30, 4, "value")
	commitState(t, db, all)
	tx := begun(t, db, true)
	put(t, db, tx, "own", "x")
	all["own"] = "x"
	first, _ := db.Scan(tx, "", "", 99)
	second, _ := db.Scan(tx, "", "", 99)
	spend(first)
	wantSeen(t, db, tx, all)
	if second[0].Key == "spent" || second[30].Key != "own" {
		t.Errorf("P2: two lists share memory")
	}
	committed(t, db, tx)
	wantSure(t, db, 2, all)
}

// TestNotKept: P2, what was handed in is not kept: its bytes may become others.
func TestNotKept(t *testing.T) {
	db := fresh(t, 100)
	commitPairs(t, db, "gone", "x")
	tx := begun(t, db, true)
	key, value, gone, from := []byte("key"), []byte(longest), []byte("gone"), []byte("k")
	put(t, db, tx, unsafe.String(&key[0], len(key)), unsafe.String(&value[0], len(value)))
	deleted(t, db, tx, unsafe.String(&gone[0], len(gone)))
	each := db.Each(tx, unsafe.String(&from[0], len(from)), "")
	for _, bytes := range [][]byte{key, value, gone, from} {
		for i := range bytes {
			bytes[i] = 'z'
		}
	}
	n := 0
	for key, value := range each {
		if n++; key != "key" || value != longest {
			t.Errorf("P2: Each tells %q, %.20q", key, value)
		}
	}
	if n != 1 {
		t.Errorf("P2: Each tells %d keys", n)
	}
	wantSeen(t, db, tx, state("key", longest))
	committed(t, db, tx)
	wantSure(t, db, 2, state("key", longest))
}

// TestTheSameAgain: P2, the same calls do the same to the file, to the byte.
func TestTheSameAgain(t *testing.T) {
	var files [2]*file.File
	for i := range files {
		c := newTrial(t, 7, 120)
		c.steps(500, c.strike)
		// A dead file can't be read.
		c.f.Crash(nil)
		files[i] = c.f
	}
	for place := range files[0].Pages() {
		a, _ := files[0].Read(place)
		if b, _ := files[1].Read(place); a != b {
			t.Errorf("P2: page %d differs", place)
		}
	}
}

// TestManyAtOnce: the lock holds for callers that do not wait for one another.
func TestManyAtOnce(t *testing.T) {
	db := fresh(t, 1000)
	var group sync.WaitGroup
	for i := range api.MaxSlots {
		group.Add(1)
		go func() {
			defer group.Done()
			for n := range 20 {
				tx := begun(t, db, true)
				put(t, db, tx, fmt.Sprint(i), fmt.Sprint(n))
				for range db.Each(tx, "", "") {
					db.Version()
				}
				committed(t, db, tx)
			}
		}()
	}
	group.Wait()
	all := map[string]string{}
	for i := range api.MaxSlots {
		all[fmt.Sprint(i)] = "19"
	}
	wantSure(t, db, 20*api.MaxSlots, all)
}
