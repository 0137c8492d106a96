package rowan_test

import (
	"fmt"
	"math/rand"
	"slices"
	"testing"

	"rowan/api"
	"rowan/file"
	"rowan/rowan"
)

// spoilt is a store's file in which a byte was turned, and what was in it.
type spoilt struct {
	name             string
	f                *file.File
	last, ahead      map[string]string
	version          int
	oneOfTheFirstTwo bool
}

// orCorrupt: P14, an answer is what it should be, or ErrCorrupt.
func orCorrupt(t *testing.T, name string, e api.Errno, should api.Errno) {
	t.Helper()
	if e != should && e != api.ErrCorrupt {
		t.Errorf("P14: %s = %d, want %d or ErrCorrupt", name, e, should)
	}
}

// wantAnswers: P14, a store with a page that may be wrong answers what it should, or ErrCorrupt; what can't read it answers what it should.
func (s *spoilt) wantAnswers(t *testing.T, db *rowan.DB, version int, all map[string]string) {
	t.Helper()
	if v := db.Version(); v != version {
		t.Errorf("P14: %s: Version() = %d, want %d", s.name, v, version)
	}
	reads, writes, idle := begun(t, db, false), begun(t, db, true), begun(t, db, true)
	list, e := db.Scan(reads, "", "", 1<<40)
	orCorrupt(t, s.name+": Scan", e, api.OK)
	if e == api.OK && !slices.Equal(list, listed(all)) || e != api.OK && len(list) != 0 {
		t.Errorf("P14: %s: Scan = %s, %d, want %s", s.name, shown(list), e, shown(listed(all)))
	}
	for _, pair := range listed(all) {
		value, e := db.Get(reads, pair.Key)
		orCorrupt(t, s.name+": Get", e, api.OK)
		if e == api.OK && value != pair.Value || e != api.OK && value != "" {
			t.Errorf("P14: %s: Get(%q) = %q, %d", s.name, pair.Key, value, e)
		}
	}
	want(t, "P14: Put", db.Put(writes, "own", "x"), api.OK)
	wantGet(t, db, writes, "own", "x", api.OK)
	wantGet(t, db, writes, "", "", api.ErrArg)
	orCorrupt(t, s.name+": Delete", db.Delete(writes, "none"), api.ErrNone)
	want(t, "P14: Delete", db.Delete(reads, "own"), api.ErrRead)
	want(t, "P14: Commit of nothing", db.Commit(idle), api.OK)
	e = db.Commit(writes)
	orCorrupt(t, s.name+": Commit", e, api.OK)
	if v := db.Version(); e == api.OK && v != version+1 || e != api.OK && v != version {
		t.Errorf("P14: %s: Version() = %d behind a Commit that told %d", s.name, v, e)
	}
	want(t, "P14: Commit", db.Commit(writes), api.ErrHandle)
	want(t, "P14: Abort", db.Abort(reads), api.OK)
}

// wantFallback: P14, what Open tells.
func (s *spoilt) wantFallback(t *testing.T) {
	t.Helper()
	db, e := rowan.Open(s.f)
	if e == api.ErrCorrupt && db == nil && (!s.oneOfTheFirstTwo || s.version == 0) {
		return
	}
	if e != api.OK {
		t.Errorf("P14: %s: Open = %v, %d", s.name, db, e)
		return
	}
	if s.oneOfTheFirstTwo && s.version > 0 && db.Version() == s.version-1 {
		wantSure(t, db, s.version-1, s.ahead)
		s.wantAnswers(t, db, s.version-1, s.ahead)
		return
	}
	if s.oneOfTheFirstTwo {
		wantSure(t, db, s.version, s.last)
	}
	s.wantAnswers(t, db, s.version, s.last)
}

// TestTurnedBytes: P14, one byte of any page, in files of the first versions and of later ones: Open, and the store that is open.
func TestTurnedBytes(t *testing.T) {
	r := rand.New(rand.NewSource(1))
	f := file.New(60)
	db := opened(t, f)
	last, ahead := map[string]string{}, map[string]string{}
	for version := range 7 {
		for page := range f.Pages() {
			for range 4 {
				at, by := r.Intn(api.PageSize), 1+r.Intn(255)
				s := &spoilt{name: fmt.Sprintf("version %d, page %d, byte %d by %d", version, page, at, by), f: f.Copy(), last: last, ahead: ahead, version: version, oneOfTheFirstTwo: page < 2}
				open := opened(t, s.f)
				s.f.Spoil(page, at, by)
				again := *s
				again.f = s.f.Copy()
				again.wantFallback(t)
				s.wantAnswers(t, open, version, last)
			}
		}
		ahead = last
		last = merged(last, state(fmt.Sprintf("key %d", version), longest[:version*60], "each", fmt.Sprint(version)))
		committed(t, db, replaced(t, db, nil, last))
	}
}

// cutOff stages a scene in which nobody holds on to what was sure earlier, lets a byte of one of the first two pages be turned, if it is to be, and cuts the Commit off by a crash.
func cutOff(t *testing.T, r *rand.Rand, turned bool) (*scene, api.Errno) {
	t.Helper()
	s := staged(t, r.Intn(4))
	want(t, "P11: Abort", s.db.Abort(s.reads), api.OK)
	want(t, "P11: Abort", s.db.Abort(s.refused), api.OK)
	if turned {
		s.f.Spoil(r.Intn(2), r.Intn(api.PageSize), 1+r.Intn(255))
	}
	s.f.Die(r.Intn(12))
	e := s.db.Commit(s.writes)
	s.f.Crash(anyKeep(r))
	return s, e
}

// TestTurnedBehindACrash: P14, a Meta page that a crash tore is no reason to lose the other one's store too.
func TestTurnedBehindACrash(t *testing.T) {
	r := rand.New(rand.NewSource(1))
	for range 600 {
		s, _ := cutOff(t, r, false)
		torn := &spoilt{name: "behind a crash", f: s.f, last: s.old, ahead: s.was, version: opened(t, s.f).Version(), oneOfTheFirstTwo: true}
		if torn.version > s.version {
			torn.last, torn.ahead = s.next, s.old
		}
		s.f.Spoil(r.Intn(2), r.Intn(api.PageSize), 1+r.Intn(255))
		torn.wantFallback(t)
	}
}

// TestTurnedAndCutOff: P12 and P14, one of the first two pages is turned while the store is open, and its next Commit is cut off by a crash.
func TestTurnedAndCutOff(t *testing.T) {
	r := rand.New(rand.NewSource(1))
	for range 600 {
		s, e := cutOff(t, r, true)
		db := opened(t, s.f)
		found := map[int]map[string]string{s.version - 1: s.was, s.version: s.old, s.version + 1: s.next}[db.Version()]
		if found == nil || e == api.OK && db.Version() != s.version+1 {
			t.Fatalf("P14: Version() = %d behind a Commit that told %d", db.Version(), e)
		}
		wantSure(t, db, db.Version(), found)
	}
}
