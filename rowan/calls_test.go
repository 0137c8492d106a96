package rowan_test

import (
	"slices"
	"testing"

	"rowan/api"
	"rowan/file"
	"rowan/rowan"
)

// TestExample: the document's example.
func TestExample(t *testing.T) {
	db := fresh(t, 40)
	if tx := begun(t, db, true); tx != 1 {
		t.Errorf("P7: Begin = %d, want 1", tx)
	}
	put(t, db, 1, "a", "x")
	if tx := begun(t, db, false); tx != 2 {
		t.Errorf("P7: Begin = %d, want 2", tx)
	}
	committed(t, db, 1)
	wantGet(t, db, 2, "a", "", api.ErrNone)
	if tx := begun(t, db, false); tx != 3 {
		t.Errorf("P7: Begin = %d, want 3", tx)
	}
	wantGet(t, db, 3, "a", "x", api.OK)
}

func TestNumbers(t *testing.T) {
	f := file.New(40)
	db := opened(t, f)
	for i := range 30 {
		tx, e := db.Begin(i%2 == 0)
		if tx != i+1 || e != api.OK {
			t.Errorf("P7: Begin = %d, %d, want %d", tx, e, i+1)
		}
		if i%3 == 0 {
			want(t, "P11: Abort", db.Abort(tx), api.OK)
		} else {
			committed(t, db, tx)
		}
	}
	if tx, e := opened(t, f).Begin(false); tx != 1 || e != api.OK {
		t.Errorf("P7: the first Begin since Open = %d, %d", tx, e)
	}
}

func TestSlots(t *testing.T) {
	db := fresh(t, 40)
	for i := range api.MaxSlots {
		begun(t, db, i%2 == 1)
	}
	for range 3 {
		if tx, e := db.Begin(true); tx != 0 || e != api.ErrSlots {
			t.Errorf("P7: Begin of one too many = %d, %d", tx, e)
		}
	}
	// One that was refused has taken no number.
	want(t, "P11: Abort", db.Abort(3), api.OK)
	if tx, e := db.Begin(false); tx != api.MaxSlots+1 || e != api.OK {
		t.Errorf("P7: Begin = %d, %d", tx, e)
	}
	if tx, e := db.Begin(false); tx != 0 || e != api.ErrSlots {
		t.Errorf("P7: Begin of one too many = %d, %d", tx, e)
	}
	// A Commit that is refused gives its slot back.
	put(t, db, 2, "a", "x")
	put(t, db, 4, "a", "y")
	committed(t, db, 2)
	want(t, "P11: Commit", db.Commit(4), api.ErrConflict)
	for range 2 {
		begun(t, db, false)
	}
	if tx, e := db.Begin(false); tx != 0 || e != api.ErrSlots {
		t.Errorf("P7: Begin of one too many = %d, %d", tx, e)
	}
}

// TestOrderOfErrors: P1, of several errors that apply the one that is named first is told, with nothing else.
func TestOrderOfErrors(t *testing.T) {
	db := fresh(t, 60)
	commitPairs(t, db, "a", "x")
	reads, writes := begun(t, db, false), begun(t, db, true)
	for _, c := range []struct {
		tx                      int
		key, value              string
		get, put, delete, again api.Errno
	}{
		{99, "", tooGreat, api.ErrHandle, api.ErrHandle, api.ErrHandle, api.ErrHandle},
		{1, "a", "x", api.ErrHandle, api.ErrHandle, api.ErrHandle, api.ErrHandle},
		{0, "a", "x", api.ErrHandle, api.ErrHandle, api.ErrHandle, api.ErrHandle},
		{-reads, "a", "x", api.ErrHandle, api.ErrHandle, api.ErrHandle, api.ErrHandle},
		{reads, "", tooGreat, api.ErrArg, api.ErrRead, api.ErrRead, api.ErrRead},
		{reads, tooLong, "x", api.ErrArg, api.ErrRead, api.ErrRead, api.ErrRead},
		{reads, "none", "x", api.ErrNone, api.ErrRead, api.ErrRead, api.ErrRead},
		{reads, "a", "x", api.OK, api.ErrRead, api.ErrRead, api.ErrRead},
		{writes, "", "x", api.ErrArg, api.ErrArg, api.ErrArg, api.ErrArg},
		{writes, tooLong, "x", api.ErrArg, api.ErrArg, api.ErrArg, api.ErrArg},
		{writes, "none", tooGreat, api.ErrNone, api.ErrArg, api.ErrNone, api.ErrNone},
		{writes, longKey, longest, api.ErrNone, api.OK, api.OK, api.ErrNone},
		{writes, "\x00", "", api.ErrNone, api.OK, api.OK, api.ErrNone},
		{writes, "a", "x", api.OK, api.OK, api.OK, api.ErrNone},
	} {
		value := ""
		if c.get == api.OK {
			value = "x"
		}
		wantGet(t, db, c.tx, c.key, value, c.get)
		want(t, "P10: Put", db.Put(c.tx, c.key, c.value), c.put)
		want(t, "P10: Delete", db.Delete(c.tx, c.key), c.delete)
		want(t, "P10: Delete once more", db.Delete(c.tx, c.key), c.again)
	}
	wantSeen(t, db, reads, state("a", "x"))
	wantSeen(t, db, writes, nil)
}

func TestScanRefuses(t *testing.T) {
	db := fresh(t, 60)
	commitPairs(t, db, "a", "x")
	tx := begun(t, db, false)
	for _, c := range []struct {
		tx       int
		from, to string
		most     int
		should   api.Errno
	}{
		{tx + 1, tooLong, tooLong, -1, api.ErrHandle}, {0, "", "", 1, api.ErrHandle}, {1, "", "", 1, api.ErrHandle},
		{tx, tooLong, "", 1, api.ErrArg}, {tx, "", tooLong, 1, api.ErrArg}, {tx, "", "", -1, api.ErrArg}, {tx, "", "", -1 << 63, api.ErrArg},
		{tx, tooLong, "", 0, api.ErrArg}, {tx, "z", tooLong, 0, api.ErrArg},
	} {
		if list, e := db.Scan(c.tx, c.from, c.to, c.most); len(list) != 0 || e != c.should {
			t.Errorf("P8: Scan(%d, %.30q, %.30q, %d) = %v, %d, want %d", c.tx, c.from, c.to, c.most, list, e, c.should)
		}
		if c.most >= 0 {
			wantEach(t, db, c.tx, c.from, c.to, nil)
		}
	}
	wantScan(t, db, tx, longKey, longKey, 1, nil)
	wantScan(t, db, tx, "", longKey, 1, listed(state("a", "x")))
}

// TestScanRanges: P8, the first so many keys that are not less than from, and less than to.
func TestScanRanges(t *testing.T) {
	db := fresh(t, 200)
	all := numbered(60, 3, "value of some bytes, so that there are many leaves")
	commitState(t, db, all)
	tx := begun(t, db, true)
	put(t, db, tx, "0205", "own")
	deleted(t, db, tx, "030")
	all["0205"] = "own"
	delete(all, "030")
	edges := []string{"", "\x00", "0", "000", "001", "020", "0205", "02051", "021", "029", "030", "031", "059", "0590", "06", "\xff"}
	for _, from := range edges {
		for _, to := range edges {
			for _, most := range []int{0, 1, 2, 7, 59, 60, 61, 1<<63 - 1} {
				var should []api.Pair
				for _, pair := range listed(all) {
					if pair.Key >= from && (to == "" || pair.Key < to) && len(should) < most {
						should = append(should, pair)
					}
				}
				wantScan(t, db, tx, from, to, most, should)
			}
		}
	}
}

// TestBytesOfKeys: P8, keys are in order byte by byte, whatever the bytes; one that begins another is less.
func TestBytesOfKeys(t *testing.T) {
	db := fresh(t, 100)
	keys := []string{"\x00", "\x00\x00", "\x00a", "A", "a", "a\x00", "a\xff", "aa", "b", "\x7f", "\x80", "é", "\xff", "\xff\xff", longKey[:23], longKey}
	tx := begun(t, db, true)
	for _, key := range keys {
		put(t, db, tx, key, "of "+key)
	}
	slices.Sort(keys)
	check := func(tx int) {
		t.Helper()
		var should []api.Pair
		for _, key := range keys {
			should = append(should, api.Pair{Key: key, Value: "of " + key})
		}
		wantScan(t, db, tx, "", "", 99, should)
		for i, key := range keys {
			wantScan(t, db, tx, key, "", 99, should[i:])
			wantScan(t, db, tx, "", key, 99, should[:i])
		}
	}
	check(tx)
	committed(t, db, tx)
	check(begun(t, db, false))
}

// TestValuesOfAllLengths: P8 and P10, a value comes back as it was put, from the transaction, the store and the file.
func TestValuesOfAllLengths(t *testing.T) {
	f := file.New(4096)
	db := opened(t, f)
	all := map[string]string{}
	tx := begun(t, db, true)
	for size := range api.MaxValue + 1 {
		b := make([]byte, size)
		for i := range b {
			b[i] = byte(i*7 + size)
		}
		key := string([]byte{byte(size >> 8), byte(size)})
		all[key] = string(b)
		put(t, db, tx, key, all[key])
	}
	wantSeen(t, db, tx, all)
	committed(t, db, tx)
	wantSure(t, db, 1, all)
	wantSure(t, opened(t, f), 1, all)
}

// TestOwnChanges: P8 and P10, a transaction sees its own changes, and no other one does.
func TestOwnChanges(t *testing.T) {
	db := fresh(t, 100)
	commitPairs(t, db, "b", "1", "d", longest)
	before, writes, other := begun(t, db, false), begun(t, db, true), begun(t, db, true)
	put(t, db, writes, "a", longest)
	put(t, db, writes, "b", "2")
	put(t, db, writes, "b", "3")
	deleted(t, db, writes, "d")
	wantGet(t, db, writes, "d", "", api.ErrNone)
	want(t, "P10: Delete of what is gone", db.Delete(writes, "d"), api.ErrNone)
	put(t, db, writes, "e", "")
	deleted(t, db, writes, "e")
	deleted(t, db, writes, "b")
	put(t, db, writes, "b", "4")
	wantSeen(t, db, writes, state("a", longest, "b", "4"))
	wantSeen(t, db, before, state("b", "1", "d", longest))
	wantSeen(t, db, other, state("b", "1", "d", longest))
	committed(t, db, writes)
	wantSeen(t, db, before, state("b", "1", "d", longest))
	wantSeen(t, db, other, state("b", "1", "d", longest))
	wantSure(t, db, 2, state("a", longest, "b", "4"))
}

// TestEnded: P11, one that has ended is open no more, whichever way it ended.
func TestEnded(t *testing.T) {
	db := fresh(t, 40)
	commitPairs(t, db, "a", "x")
	ended := func(what string, tx int) {
		t.Helper()
		wantGet(t, db, tx, "a", "", api.ErrHandle)
		want(t, what+", then Put", db.Put(tx, "a", "y"), api.ErrHandle)
		want(t, what+", then Delete", db.Delete(tx, "a"), api.ErrHandle)
		want(t, what+", then Abort", db.Abort(tx), api.ErrHandle)
		want(t, what+", then Commit", db.Commit(tx), api.ErrHandle)
		wantEach(t, db, tx, "", "", nil)
	}
	tx := begun(t, db, true)
	put(t, db, tx, "b", "y")
	want(t, "P11: Abort", db.Abort(tx), api.OK)
	ended("P11: Abort", tx)
	tx, late := begun(t, db, true), begun(t, db, true)
	put(t, db, tx, "c", "y")
	committed(t, db, tx)
	ended("P11: Commit", tx)
	put(t, db, late, "c", "z")
	want(t, "P11: Commit", db.Commit(late), api.ErrConflict)
	ended("P11: a Commit that conflicts", late)
	tx = begun(t, db, true)
	for key, value := range numbered(100, 24, longest) {
		put(t, db, tx, key, value)
	}
	want(t, "P11: Commit", db.Commit(tx), api.ErrFull)
	ended("P11: a Commit without room", tx)
	wantSure(t, db, 2, state("a", "x", "c", "y"))
}

// TestConflicts: P11, for what one and what the other one does to a key.
func TestConflicts(t *testing.T) {
	ways := map[string]func(db *rowan.DB, tx int) api.Errno{
		"puts":              func(db *rowan.DB, tx int) api.Errno { return db.Put(tx, "k", "new") },
		"puts what was":     func(db *rowan.DB, tx int) api.Errno { return db.Put(tx, "k", "old") },
		"deletes":           func(db *rowan.DB, tx int) api.Errno { return db.Delete(tx, "k") },
		"deletes, puts":     func(db *rowan.DB, tx int) api.Errno { return max(db.Delete(tx, "k"), db.Put(tx, "k", "new")) },
		"puts, deletes":     func(db *rowan.DB, tx int) api.Errno { return max(db.Put(tx, "k", "new"), db.Delete(tx, "k")) },
		"puts with another": func(db *rowan.DB, tx int) api.Errno { return max(db.Put(tx, "j", "new"), db.Put(tx, "k", "new")) },
	}
	for one, first := range ways {
		for two, second := range ways {
			db := fresh(t, 100)
			commitPairs(t, db, "k", "old", "l", "old")
			a, b, c, r := begun(t, db, true), begun(t, db, true), begun(t, db, true), begun(t, db, false)
			want(t, one, first(db, a), api.OK)
			want(t, two, second(db, b), api.OK)
			put(t, db, c, "l", "new")
			committed(t, db, a)
			want(t, "P11: Commit of one that "+two+" when the other one "+one, db.Commit(b), api.ErrConflict)
			committed(t, db, c)
			committed(t, db, r)
			if v := db.Version(); v != 3 {
				t.Errorf("P11: Version() = %d, want 3", v)
			}
		}
	}
}

// TestNoConflict: P11, what does not conflict: what was aborted or refused, what was read, and what was committed ahead of Begin.
func TestNoConflict(t *testing.T) {
	db := fresh(t, 100)
	commitPairs(t, db, "k", "0")
	late := begun(t, db, true)
	tx := begun(t, db, true)
	put(t, db, tx, "k", "aborted")
	want(t, "P11: Abort", db.Abort(tx), api.OK)
	tx = begun(t, db, true)
	want(t, "P10: Delete", db.Delete(tx, "none"), api.ErrNone)
	wantGet(t, db, tx, "k", "0", api.OK)
	put(t, db, tx, "kk", "1")
	committed(t, db, tx)
	put(t, db, late, "none", "1")
	put(t, db, late, "k", "1")
	committed(t, db, late)
	commitPairs(t, db, "k", "2")
	wantSure(t, db, 4, state("k", "2", "kk", "1", "none", "1"))
	// A key that was put behind the other one's Commit conflicts too, and so does one of many commits ago.
	late = begun(t, db, true)
	commitPairs(t, db, "k", "3")
	for range 20 {
		commitPairs(t, db, "other", "x")
	}
	put(t, db, late, "k", "late")
	want(t, "P11: Commit", db.Commit(late), api.ErrConflict)
	wantGet(t, db, begun(t, db, false), "k", "3", api.OK)
}

// TestBothStay: P11, a Commit keeps what others have committed since it began.
func TestBothStay(t *testing.T) {
	db := fresh(t, 300)
	all := numbered(40, 4, "old")
	commitState(t, db, all)
	a, b, c := begun(t, db, true), begun(t, db, true), begun(t, db, true)
	for i, pair := range listed(all) {
		switch i % 4 {
		case 0:
			put(t, db, a, pair.Key, "a")
			all[pair.Key] = "a"
		case 1:
			deleted(t, db, b, pair.Key)
			delete(all, pair.Key)
		case 2:
			put(t, db, c, pair.Key+"c", longest)
			all[pair.Key+"c"] = longest
		}
	}
	committed(t, db, b)
	committed(t, db, c)
	committed(t, db, a)
	wantSure(t, db, 4, all)
}
