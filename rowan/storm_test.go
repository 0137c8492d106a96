package rowan_test

import (
	"maps"
	"math/rand"
	"strings"
	"testing"

	"rowan/api"
	"rowan/file"
	"rowan/rowan"
)

// never is behind how many calls a file fails that is not to fail.
const never = 1 << 40

// storm is a store whose file fails, dies and crashes time and again, with what each version had.
type storm struct {
	t        *testing.T
	r        *rand.Rand
	f        *file.File
	db       *rowan.DB
	versions []map[string]string
	dies     bool // the file is dead, or will be, till there is a crash
}

func (s *storm) last() map[string]string { return s.versions[len(s.versions)-1] }

// commit changes some keys, while the file may fail: what Commit told, and what there would be.
func (s *storm) commit() (api.Errno, map[string]string) {
	next := maps.Clone(s.last())
	tx := begun(s.t, s.db, true)
	for range 1 + s.r.Intn(6) {
		key := strings.Repeat("k", s.r.Intn(20)) + oneOf(s.r, "a", "b", "c", "d")
		if _, found := next[key]; found && s.r.Intn(2) == 0 {
			deleted(s.t, s.db, tx, key)
			delete(next, key)
			continue
		}
		next[key] = strings.Repeat(oneOf(s.r, "x", "y", "z"), oneOf(s.r, 0, 9, 60, 61, 300))
		put(s.t, s.db, tx, key, next[key])
	}
	switch s.r.Intn(4) {
	case 0:
		s.f.Fail(s.r.Intn(15))
	case 1:
		s.f.Die(s.r.Intn(15))
		s.dies = true
	}
	failed := s.f.Failed()
	e := s.db.Commit(tx)
	if e == api.ErrDisk && s.f.Failed() == failed && !s.f.Dead() {
		s.t.Errorf("P12: Commit = %d, but no call has failed", e)
	}
	return e, next
}

// reopen opens the store anew, behind a crash, if there is to be one, and notes what was found.
func (s *storm) reopen(e api.Errno, next map[string]string) {
	s.t.Helper()
	if s.dies || s.r.Intn(2) == 0 {
		s.f.Crash(anyKeep(s.r))
		s.dies = false
	}
	s.f.Fail(never)
	s.db = opened(s.t, s.f)
	if s.db.Version() == len(s.versions) && e == api.ErrDisk {
		s.versions = append(s.versions, next)
	}
	wantSure(s.t, s.db, len(s.versions)-1, s.last())
}

// turn turns a byte of one of the first two pages of a copy, which Open must get by with.
func (s *storm) turn() {
	s.t.Helper()
	f := s.f.Copy()
	f.Crash(nil)
	f.Spoil(s.r.Intn(2), s.r.Intn(api.PageSize), 1+s.r.Intn(255))
	db := opened(s.t, f)
	if v := db.Version(); v != len(s.versions)-1 && v != len(s.versions)-2 {
		s.t.Errorf("P14: Version() = %d, but it was %d", v, len(s.versions)-1)
		return
	}
	wantSure(s.t, db, db.Version(), s.versions[db.Version()])
	tx := begun(s.t, db, true)
	put(s.t, db, tx, "behind it", "x")
	if e := db.Commit(tx); e != api.OK && e != api.ErrFull {
		s.t.Errorf("P14: Commit = %d", e)
	}
}

// TestStorm: P12, P14 and P15, whatever happens to the file between commits and in them.
func TestStorm(t *testing.T) {
	for seed := range int64(25) {
		r := rand.New(rand.NewSource(seed))
		s := &storm{t: t, r: r, f: file.New(oneOf(r, 40, 60, 100)), versions: []map[string]string{{}}}
		s.db = opened(t, s.f)
		for range 60 {
			e, next := s.commit()
			switch e {
			case api.OK:
				s.versions = append(s.versions, next)
			case api.ErrDisk:
			case api.ErrFull:
				next = s.last()
			default:
				t.Errorf("P11: Commit = %d", e)
			}
			if e == api.ErrDisk || r.Intn(3) == 0 {
				s.reopen(e, next)
				s.turn()
			} else if !s.f.Dead() {
				wantSure(t, s.db, len(s.versions)-1, s.last())
			}
			if s.f.Dead() {
				s.reopen(e, next)
			}
			s.f.Fail(never)
			if t.Failed() {
				t.Fatalf("seed %d", seed)
			}
		}
	}
}
