package rowan_test

import (
	"fmt"
	"maps"
	"testing"

	"rowan/api"
	"rowan/file"
	"rowan/rowan"
)

// replaced puts a whole state in the stead of another one, and does not commit yet.
func replaced(t *testing.T, db *rowan.DB, old map[string]string, next map[string]string) int {
	t.Helper()
	tx := begun(t, db, true)
	for _, pair := range listed(old) {
		if _, found := next[pair.Key]; !found {
			deleted(t, db, tx, pair.Key)
		}
	}
	for _, pair := range listed(next) {
		put(t, db, tx, pair.Key, pair.Value)
	}
	return tx
}

// TestRoomThatThereMustBe: P13, in a file that has just the pages which all trees need together, no Commit is without room: readers hold on to as many states as there may be, none of which shares a key with another.
func TestRoomThatThereMustBe(t *testing.T) {
	for _, kind := range []struct {
		many, key int
		value     string
	}{{1, 1, ""}, {3, 24, longest}, {10, 24, longest[:60]}, {10, 24, longest[:61]}, {25, 3, "x"}, {13, 20, longest[:240]}, {13, 20, longest[:241]}, {40, 24, longest[:60]}} {
		states := []map[string]string{{}}
		for i := range api.MaxSlots + 4 {
			next := map[string]string{}
			for key, value := range numbered(kind.many, kind.key, kind.value) {
				next[string(rune('A'+i))+key[1:]] = value
			}
			states = append(states, next)
		}
		one := needs(states[1])
		// The readers', the writer's own, what is sure, what was sure ahead of it, and what would be.
		pages := max(api.MinPages, (api.MaxSlots-1)*one+4*one+2)
		db := fresh(t, pages)
		var readers []int
		for i, next := range states[1:] {
			if len(readers) == api.MaxSlots-1 {
				want(t, "P11: Abort", db.Abort(readers[0]), api.OK)
				readers = readers[1:]
			}
			readers = append(readers, begun(t, db, false))
			want(t, fmt.Sprintf("P13: Commit %d of %d keys in %d pages", i, kind.many, pages), db.Commit(replaced(t, db, states[i], next)), api.OK)
			for back, reader := range readers {
				wantSeen(t, db, reader, states[i-len(readers)+1+back])
			}
		}
	}
}

// TestNoRoom: P11 and P13, what there can't be room for is refused, and nothing has changed then.
func TestNoRoom(t *testing.T) {
	f := file.New(40)
	db := opened(t, f)
	commitPairs(t, db, "a", "x")
	// The first has more bytes of values than the file has pages for, the second more of keys.
	for _, all := range []map[string]string{numbered(20, 3, longest), numbered(400, 24, "")} {
		tx := replaced(t, db, nil, all)
		wantSeen(t, db, tx, merged(all, state("a", "x")))
		want(t, "P11: Commit", db.Commit(tx), api.ErrFull)
		wantSure(t, db, 1, state("a", "x"))
		wantSure(t, opened(t, f.Copy()), 1, state("a", "x"))
	}
	commitPairs(t, db, "b", longest)
	wantSure(t, db, 2, state("a", "x", "b", longest))
}

func merged(a map[string]string, b map[string]string) map[string]string {
	m := maps.Clone(a)
	maps.Copy(m, b)
	return m
}

// TestRoomComesBack: P13, what a transaction saw is kept for it, and there is room again when it has ended.
func TestRoomComesBack(t *testing.T) {
	db := fresh(t, 50)
	old := numbered(8, 4, longest)
	commitState(t, db, old)
	reader := begun(t, db, false)
	next := numbered(8, 5, longest)
	committed(t, db, replaced(t, db, old, next))
	want(t, "P11: Commit while all is held", db.Commit(replaced(t, db, next, numbered(8, 6, longest))), api.ErrFull)
	wantSeen(t, db, reader, old)
	want(t, "P11: Abort", db.Abort(reader), api.OK)
	commitPairs(t, db, "0", "x")
	committed(t, db, replaced(t, db, next, numbered(8, 6, longest)))
	wantSure(t, db, 4, merged(numbered(8, 6, longest), state("0", "x")))
}
