package rowan_test

import (
	"fmt"
	"maps"
	"math/rand"
	"slices"
	"testing"

	"rowan/api"
	"rowan/file"
	"rowan/rowan"
)

// witnesses are transactions that are open, with what each saw when it began.
type witnesses map[int]map[string]string

// wantTheSame: P15, each sees what it saw.
func (all witnesses) wantTheSame(t *testing.T, db *rowan.DB, behind string) {
	t.Helper()
	for tx, saw := range all {
		wantSeen(t, db, tx, saw)
	}
	if t.Failed() {
		t.Fatalf("P15: behind %s", behind)
	}
}

// TestOneAndTheSameState: P15, a transaction sees one and the same state till it changes it itself, whatever others do meanwhile, and whatever comes of it.
func TestOneAndTheSameState(t *testing.T) {
	f := file.New(150)
	db := opened(t, f)
	last, all := map[string]string{}, witnesses{}
	for i := range api.MaxSlots - 2 {
		all[begun(t, db, i%2 == 0)] = last
		all.wantTheSame(t, db, "Begin")
		next := merged(last, state(fmt.Sprint(i), longest[:i*60], "each", fmt.Sprint(i)))
		delete(next, fmt.Sprint(i-2))
		committed(t, db, replaced(t, db, last, next))
		last = next
		all.wantTheSame(t, db, "a Commit")
	}
	tx, other := replaced(t, db, last, state("each", "x")), replaced(t, db, nil, state("each", "y"))
	all.wantTheSame(t, db, "changes of others")
	want(t, "P11: Abort", db.Abort(tx), api.OK)
	all.wantTheSame(t, db, "Abort")
	commitPairs(t, db, "each", "z")
	want(t, "P11: Commit", db.Commit(other), api.ErrConflict)
	all.wantTheSame(t, db, "ErrConflict")
	want(t, "P11: Commit", db.Commit(replaced(t, db, nil, numbered(200, 9, longest))), api.ErrFull)
	all.wantTheSame(t, db, "ErrFull")
	for i := range 300 {
		commitPairs(t, db, "each", longest[:i])
	}
	all.wantTheSame(t, db, "many commits")
	for tx, saw := range all {
		if db.Put(tx, "own", "x") == api.OK {
			all[tx] = merged(saw, state("own", "x"))
		}
	}
	all.wantTheSame(t, db, "changes of their own")
	f.Fail(1)
	want(t, "P11: Commit", db.Commit(replaced(t, db, nil, state("each", "x"))), api.ErrDisk)
	all.wantTheSame(t, db, "ErrDisk")
}

// TestOnlyOneCommits: P15, of those that are open at once and change one key only one commits, in whichever order they begin, change it and commit.
func TestOnlyOneCommits(t *testing.T) {
	r := rand.New(rand.NewSource(1))
	for range 300 {
		db := fresh(t, 60)
		commitPairs(t, db, "key", "old")
		var all []int
		for range 2 + r.Intn(api.MaxSlots-1) {
			all = append(all, begun(t, db, true))
		}
		r.Shuffle(len(all), func(i, j int) { all[i], all[j] = all[j], all[i] })
		for i, tx := range all {
			put(t, db, tx, "key", fmt.Sprint(i))
			put(t, db, tx, fmt.Sprint("of ", i), "own")
			if r.Intn(3) == 0 {
				deleted(t, db, tx, "key")
			}
		}
		first := r.Intn(len(all))
		committed(t, db, all[first])
		for i, tx := range all {
			if i != first {
				want(t, "P11, P15: Commit", db.Commit(tx), api.ErrConflict)
			}
		}
		list, e := db.Scan(begun(t, db, false), "of", "og", 99)
		if v := db.Version(); v != 2 || e != api.OK || !slices.Equal(list, []api.Pair{{Key: fmt.Sprint("of ", first), Value: "own"}}) {
			t.Fatalf("P15: Version() = %d, Scan = %s, %d", v, shown(list), e)
		}
	}
}

// TestForEver: P13 and P15, a store can be changed for ever in a file that has room for it.
func TestForEver(t *testing.T) {
	r := rand.New(rand.NewSource(1))
	f := file.New(90)
	db := opened(t, f)
	all := map[string]string{}
	for i := range 1500 {
		key, value := fmt.Sprintf("%0*d", 1+r.Intn(24), r.Intn(5)), longest[:r.Intn(401)]
		next := maps.Clone(all)
		next[key] = value
		if needs(next)*4+2 > f.Pages() {
			next = state(key, value)
		}
		committed(t, db, replaced(t, db, all, next))
		all = next
		if i%100 == 0 {
			db = opened(t, f)
			wantSure(t, db, i+1, all)
		}
	}
	wantSure(t, opened(t, f), 1500, all)
}

// TestForEverOnABadFile: P12, P13 and P15, nor is room lost by what comes to nothing: commits that are refused, fail or are cut off, and transactions that never end.
func TestForEverOnABadFile(t *testing.T) {
	r := rand.New(rand.NewSource(1))
	states := []map[string]string{numbered(6, 24, longest), numbered(6, 23, longest)}
	f := file.New(4*needs(states[0]) + 2)
	commitState(t, opened(t, f), states[0])
	for i := range 300 {
		db, old, next := opened(t, f), states[i%2], states[1-i%2]
		wantSure(t, db, i+1, old)
		tx := replaced(t, db, old, next)
		switch i % 4 {
		case 0:
			f.Fail(r.Intn(25))
		case 1:
			f.Die(r.Intn(25))
		case 2:
			want(t, "P11: Commit", db.Commit(replaced(t, db, nil, numbered(100, 5, longest))), api.ErrFull)
		case 3:
			put(t, db, begun(t, db, true), "never", longest)
		}
		db.Commit(tx)
		f.Crash(anyKeep(r))
		if db = opened(t, f); db.Version() == i+1 {
			committed(t, db, replaced(t, db, old, next))
		}
		wantSure(t, db, i+2, next)
		if t.Failed() {
			t.Fatalf("P15: behind %d commits", i)
		}
	}
}
