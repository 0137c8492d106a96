package rowan_test

import (
	"fmt"
	"math/rand"
	"strings"
	"testing"

	"rowan/api"
	"rowan/file"
	"rowan/rowan"
)

// scene is a store in which a Commit is about to be tried: with what is sure, one that reads what was sure earlier, and others that write.
type scene struct {
	f              *file.File
	db             *rowan.DB
	version        int // of old
	was, old, next map[string]string
	reads          int
	writes         int // changes old to next
	conflicts      int // changes a key that writes changes too
	refused        int // changes a key that was committed since it began
	others         int // changes another key
	idle           int
}

// staged sets the scene behind so many commits: which of the two Meta pages is the older one hangs on that.
func staged(t *testing.T, commits int) *scene {
	t.Helper()
	f := file.New(200)
	s := &scene{f: f, db: opened(t, f), version: commits + 2}
	for range commits {
		commitPairs(t, s.db, "early", "x")
	}
	s.was = merged(numbered(12, 9, longest[:100]), state("early", "y"))
	commitState(t, s.db, s.was)
	s.reads, s.refused = begun(t, s.db, false), begun(t, s.db, true)
	put(t, s.db, s.refused, "a", "late")
	commitPairs(t, s.db, "a", "x", "b", longest)
	s.old = merged(s.was, state("a", "x", "b", longest))
	s.writes, s.conflicts, s.others, s.idle = begun(t, s.db, true), begun(t, s.db, true), begun(t, s.db, true), begun(t, s.db, true)
	put(t, s.db, s.conflicts, "c", "late")
	put(t, s.db, s.others, "d", "other")
	put(t, s.db, s.writes, "c", longest)
	deleted(t, s.db, s.writes, "a")
	s.next = merged(s.was, state("b", longest, "c", longest))
	return s
}

// hit lets the file of a scene fail or die behind so many changing calls.
func (s *scene) hit(dies bool, behind int) {
	if dies {
		s.f.Die(behind)
	} else {
		s.f.Fail(behind)
	}
}

// anyKeep is which sectors stay in a crash.
func anyKeep(r *rand.Rand) []int {
	keep := make([]int, r.Intn(400))
	odd := oneOf(r, 0, 1, 2, 10)
	for i := range keep {
		keep[i] = min(1, r.Intn(1+odd))
	}
	return keep
}

// wantStuck: P12, behind a Commit that told ErrDisk no other one is done, and all see what they saw.
func (s *scene) wantStuck(t *testing.T) {
	t.Helper()
	if v := s.db.Version(); v != s.version {
		t.Errorf("P12: Version() = %d, want %d", v, s.version)
	}
	if !s.f.Dead() {
		wantSeen(t, s.db, s.reads, s.was)
		wantSeen(t, s.db, s.refused, merged(s.was, state("a", "late")))
		wantSeen(t, s.db, s.conflicts, merged(s.old, state("c", "late")))
		wantSeen(t, s.db, s.idle, s.old)
		wantSure(t, s.db, s.version, s.old)
	}
	want(t, "P11: Commit of one that was committed", s.db.Commit(s.writes), api.ErrHandle)
	want(t, "P11, P12: Commit of one that conflicts", s.db.Commit(s.refused), api.ErrConflict)
	want(t, "P12: Commit of another key", s.db.Commit(s.others), api.ErrDisk)
	want(t, "P12: Commit of a key that was not made sure of", s.db.Commit(s.conflicts), api.ErrDisk)
	want(t, "P11: Commit of one that changed nothing", s.db.Commit(s.idle), api.OK)
	s.wantLateStuck(t)
}

// wantLateStuck: P12, nor is one done that begins behind it.
func (s *scene) wantLateStuck(t *testing.T) {
	t.Helper()
	late, huge := begun(t, s.db, true), begun(t, s.db, true)
	put(t, s.db, late, "c", "late")
	for key := range numbered(s.f.Pages(), 5, "") {
		put(t, s.db, huge, key, longest)
	}
	full := api.ErrDisk
	if !s.f.Dead() {
		wantSeen(t, s.db, late, merged(s.old, state("c", "late")))
		full = api.ErrFull
	}
	want(t, "P1, P12: Commit of what there is no room for", s.db.Commit(huge), full)
	want(t, "P12: Commit of one that began behind it", s.db.Commit(late), api.ErrDisk)
	if !s.f.Dead() {
		wantSure(t, s.db, s.version, s.old)
	}
}

// wantWhole: P12, Open finds a Commit done as a whole or not at all; done, if it answered OK.
func (s *scene) wantWhole(t *testing.T, f *file.File, told api.Errno) {
	t.Helper()
	db := opened(t, f)
	if db.Version() == s.version+1 {
		wantSure(t, db, s.version+1, s.next)
	} else if told == api.OK {
		t.Errorf("P12: what was sure is lost: Version() = %d", db.Version())
	} else {
		wantSure(t, db, s.version, s.old)
	}
	wantStays(t, f, db.Version())
}

// TestFileFails: P11 and P12, whichever call of the file fails in a Commit, and whichever one it dies at.
func TestFileFails(t *testing.T) {
	r := rand.New(rand.NewSource(1))
	for _, dies := range []bool{false, true} {
		for behind, failed := 0, true; failed; behind++ {
			s := staged(t, behind%2)
			s.hit(dies, behind)
			e := s.db.Commit(s.writes)
			failed = s.f.Failed() > 0 || behind == 0
			should := api.OK
			if failed {
				should = api.ErrDisk
			}
			want(t, fmt.Sprintf("P11: Commit, a call fails behind %d", behind), e, should)
			for range 5 {
				torn := s.f.Copy()
				torn.Crash(anyKeep(r))
				s.wantWhole(t, torn, e)
			}
			if failed {
				s.wantStuck(t)
				if !s.f.Dead() {
					s.wantWhole(t, s.f, e)
				}
			}
		}
	}
}

// TestDeadFile: P11 and P12, on a file that is dead.
func TestDeadFile(t *testing.T) {
	s := staged(t, 0)
	s.f.Die(0)
	want(t, "P11: Commit of one that conflicts", s.db.Commit(s.refused), api.ErrConflict)
	want(t, "P11: Commit of one that changed nothing", s.db.Commit(s.idle), api.OK)
	want(t, "P10: Put", s.db.Put(s.writes, "e", "x"), api.OK)
	want(t, "P10: Put of no key", s.db.Put(s.writes, "", "x"), api.ErrArg)
	wantGet(t, s.db, s.reads, "", "", api.ErrArg)
	wantGet(t, s.db, s.refused, "a", "", api.ErrHandle)
	want(t, "P10: Delete", s.db.Delete(s.reads, "a"), api.ErrRead)
	for _, key := range []string{"b", "none"} {
		wantGet(t, s.db, s.reads, key, "", api.ErrDisk)
		want(t, "P12: Delete", s.db.Delete(s.writes, key), api.ErrDisk)
	}
	if list, e := s.db.Scan(s.reads, "", "", 9); len(list) != 0 || e != api.ErrDisk {
		t.Errorf("P12: Scan = %s, %d", shown(list), e)
	}
	wantEach(t, s.db, s.reads, "", "", nil)
	want(t, "P11: Commit", s.db.Commit(s.writes), api.ErrDisk)
	if v := s.db.Version(); v != 2 {
		t.Errorf("P12: Version() = %d", v)
	}
	// The file is in order again, but the store that told ErrDisk must be opened anew.
	s.f.Crash(nil)
	wantSeen(t, s.db, s.reads, s.was)
	want(t, "P12: Commit", s.db.Commit(s.others), api.ErrDisk)
	wantSure(t, opened(t, s.f), 2, s.old)
}

// TestDeadForAWhile: P12, only a Commit that told ErrDisk keeps later ones from being done.
func TestDeadForAWhile(t *testing.T) {
	s := staged(t, 1)
	s.f.Die(0)
	wantGet(t, s.db, s.reads, "a", "", api.ErrDisk)
	want(t, "P12: Delete", s.db.Delete(s.others, "a"), api.ErrDisk)
	want(t, "P11: Commit of one that conflicts", s.db.Commit(s.refused), api.ErrConflict)
	want(t, "P11: Commit of one that changed nothing", s.db.Commit(s.idle), api.OK)
	want(t, "P11: Abort", s.db.Abort(s.conflicts), api.OK)
	if tx, e := s.db.Begin(true); tx == 0 || e != api.OK {
		t.Errorf("P7: Begin = %d, %d", tx, e)
	}
	s.f.Crash(nil)
	want(t, "P12: Commit", s.db.Commit(s.writes), api.OK)
	want(t, "P12: Commit of another key", s.db.Commit(s.others), api.OK)
	wantSeen(t, s.db, s.reads, s.was)
	wantSure(t, opened(t, s.f), s.version+2, merged(s.next, state("d", "other")))
}

// TestOnlyCommitMeetsTheFailure: P12, a file that would fail does not at any other call, nor at a Commit that has nothing to make sure of.
func TestOnlyCommitMeetsTheFailure(t *testing.T) {
	s := staged(t, 0)
	s.f.Fail(0)
	wantSeen(t, s.db, s.reads, s.was)
	wantSure(t, s.db, s.version, s.old)
	put(t, s.db, s.others, "e", longest)
	deleted(t, s.db, s.others, "b")
	want(t, "P10: Delete", s.db.Delete(s.others, "b"), api.ErrNone)
	want(t, "P11: Commit of one that conflicts", s.db.Commit(s.refused), api.ErrConflict)
	want(t, "P11: Commit of one that changed nothing", s.db.Commit(s.idle), api.OK)
	want(t, "P11: Abort", s.db.Abort(s.conflicts), api.OK)
	want(t, "P1, P11: Commit of what there is no room for", s.db.Commit(replaced(t, s.db, nil, numbered(s.f.Pages(), 5, longest))), api.ErrFull)
	if n := s.f.Failed(); n != 0 {
		t.Fatalf("P12: %d calls of the file have failed", n)
	}
	want(t, "P11: Commit", s.db.Commit(s.writes), api.ErrDisk)
	if n := s.f.Failed(); n != 1 {
		t.Errorf("P12: %d calls of the file have failed", n)
	}
	want(t, "P12: Commit behind it", s.db.Commit(s.others), api.ErrDisk)
}

// TestUnsyncedIsMadeSure: P12, what Open found that was not synced is sure from then on.
func TestUnsyncedIsMadeSure(t *testing.T) {
	for behind := 0; ; behind++ {
		s := staged(t, 1)
		s.f.Fail(behind)
		s.db.Commit(s.writes)
		if s.f.Failed() == 0 {
			break
		}
		found := opened(t, s.f).Version()
		s.f.Crash(nil)
		if v := opened(t, s.f).Version(); v != found {
			t.Errorf("P12: Version() = %d behind a crash, but was %d", v, found)
		}
	}
}

// TestReadersBehindAFailedCommit: P12, a Commit that told ErrDisk has written over nothing that an open transaction sees, of whichever version, nor does a crash behind it.
func TestReadersBehindAFailedCommit(t *testing.T) {
	r := rand.New(rand.NewSource(1))
	for behind, failed := 0, true; failed; behind++ {
		f := file.New(120)
		db := opened(t, f)
		saw := map[int]map[string]string{}
		for i := range 5 {
			last := numbered(5, 9, strings.Repeat(fmt.Sprint(i), 100))
			commitState(t, db, last)
			saw[begun(t, db, i%2 == 0)] = last
		}
		tx := replaced(t, db, nil, numbered(8, 9, longest))
		f.Fail(behind)
		e := db.Commit(tx)
		failed = f.Failed() > 0
		if (e == api.ErrDisk) != failed {
			t.Fatalf("P12: Commit = %d, a call fails behind %d: %v", e, behind, failed)
		}
		for range 2 {
			for reader, state := range saw {
				wantSeen(t, db, reader, state)
			}
			f.Crash(anyKeep(r))
		}
	}
}
