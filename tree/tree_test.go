package tree_test

import (
	"fmt"
	"maps"
	"math/rand"
	"slices"
	"strings"
	"testing"

	"rowan/api"
	"rowan/file"
	"rowan/tree"
)

func oneOf[T any](r *rand.Rand, values ...T) T { return values[r.Intn(len(values))] }

// batch is some changes, which it does to the state too: the fewer stay the more are gone.
func batch(r *rand.Rand, state map[string]string, key func() string, many int, stay int) tree.Changes {
	var all tree.Changes
	for range many {
		if r.Intn(10) < stay {
			k, v := key(), strings.Repeat(string(rune('a'+r.Intn(26))), oneOf(r, 0, 5, 60, 60, 61, 240, 241, 400))
			all = all.With(tree.Change{Key: k, Value: v})
			state[k] = v
		} else if len(state) > 0 {
			k := oneOf(r, slices.Sorted(maps.Keys(state))...)
			all = all.With(tree.Change{Key: k, Gone: true})
			delete(state, k)
		}
	}
	return all
}

// TestTreesGrowAndShrink: whatever is put and taken away, in whichever batches, a tree is sound and has what it should.
func TestTreesGrowAndShrink(t *testing.T) {
	for seed := range int64(10) {
		r := rand.New(rand.NewSource(seed))
		size := oneOf(r, 1, 3, 10, 24)
		key := func() string { return fmt.Sprintf("%0*d", 1+r.Intn(size), r.Intn(400)) }
		tr, state := tree.Tree{File: file.New(4096)}, map[string]string{}
		for round := range 60 {
			tr.Changes = batch(r, state, key, oneOf(r, 1, 2, 30, 100), []int{9, 5, 1}[round%30/10])
			wantState(t, tr, state)
			tr, _ = grown(tr)
			wantState(t, tr, state)
			wantSound(t, tr)
			if t.Failed() {
				t.Fatalf("seed %d, round %d", seed, round)
			}
		}
	}
}

// TestHighTrees: what is taken away from a tree of many levels, by ranges that leave single pages of many levels behind, lets it stay sound.
func TestHighTrees(t *testing.T) {
	state := numbered(1200, 24, strings.Repeat("v", 60))
	high := planted(4096, state)
	if s := wantSound(t, high); s.leaves[0] < 3 {
		t.Fatalf("the leaves are %d from the root: not far enough for this test", s.leaves[0])
	}
	keys := slices.Sorted(maps.Keys(state))
	r := rand.New(rand.NewSource(1))
	for range 100 {
		left := maps.Clone(state)
		tr := tree.Tree{File: high.File.Copy(), Root: high.Root}
		for range 1 + r.Intn(3) {
			from := r.Intn(len(keys))
			for _, key := range keys[from:min(len(keys), from+r.Intn(1200))] {
				if _, found := left[key]; found && r.Intn(300) > 0 {
					tr.Changes = tr.Changes.With(tree.Change{Key: key, Gone: true})
					delete(left, key)
				}
			}
		}
		tr, _ = grown(tr)
		wantState(t, tr, left)
		wantSound(t, tr)
		if t.Failed() {
			t.FailNow()
		}
	}
}

// TestOneByOne: single changes write a page of each level, or one more, and let all else stand.
func TestOneByOne(t *testing.T) {
	state := numbered(250, 24, strings.Repeat("v", 60))
	tr := planted(4096, state)
	for i, key := range slices.Sorted(maps.Keys(state)) {
		levels := surveyed(t, tr).leaves[0] + 1
		tr.Changes = tr.Changes.With(tree.Change{Key: key, Gone: true})
		var written int
		if tr, written = grown(tr); written > 2*levels {
			t.Errorf("key %d: taking away one wrote %d pages, in a tree of %d levels", i, written, levels)
		}
		delete(state, key)
		wantState(t, tr, state)
		wantSound(t, tr)
	}
	if tr.Root != 0 {
		t.Errorf("a tree without keys has the root %d", tr.Root)
	}
}

// TestAsked: the entries of a range are those, and no others.
func TestAsked(t *testing.T) {
	state := numbered(40, 2, strings.Repeat("v", 50))
	tr := planted(100, state)
	tr.Changes = puts(map[string]string{"075": "own", "20": "own", "99": "own"}).With(tree.Change{Key: "21", Gone: true})
	state["075"], state["20"], state["99"] = "own", "own", "own"
	delete(state, "21")
	for _, from := range []string{"", "0", "07", "075", "0751", "19", "20", "21", "22", "39", "399", "99", "991"} {
		for _, to := range []string{"", "0", "07", "075", "0751", "19", "20", "21", "22", "39", "399", "99", "991"} {
			var want []api.Pair
			for _, pair := range listed(state) {
				if pair.Key >= from && (to == "" || pair.Key < to) {
					want = append(want, pair)
				}
			}
			if got := pairs(tr, from, to); !slices.Equal(got, want) {
				t.Errorf("Pairs(%q, %q) = %s, want %s", from, to, shown(got), shown(want))
			}
		}
	}
	for _, key := range []string{"00", "07", "075", "0750", "20", "21", "22", "39", "4", "99"} {
		entry, found := tr.Find(key)
		value, should := state[key]
		if found != should || found && (entry.Key != key || tr.Value(entry) != value) {
			t.Errorf("Find(%q) = %v, %v", key, entry, found)
		}
	}
}

// TestLeftEarly: an iterator that is left reads no page that it did not come to, and can be ranged over again.
func TestLeftEarly(t *testing.T) {
	state := numbered(100, 3, strings.Repeat("v", 60))
	tr := planted(200, state)
	s := surveyed(t, tr)
	for place := range s.places {
		data, _ := tr.File.Read(place)
		if data[0] == api.Leaf && !strings.Contains(data, "000") {
			tr.File.Spoil(place, 100, 1)
		}
	}
	tr.Changes = puts(map[string]string{"0": "own", "0000": "own"})
	all := tr.Pairs("", "")
	for left := 1; left <= 3; left++ {
		n := 0
		for key := range all {
			if want := []string{"0", "000", "0000"}[n]; key != want {
				t.Errorf("place %d has %q, want %q", n, key, want)
			}
			if n++; n == left {
				break
			}
		}
	}
	if e := givenUp(func() { pairs(tr, "", "") }); e != api.ErrCorrupt {
		t.Errorf("all pairs gave up with %d, want %d", e, api.ErrCorrupt)
	}
}

// TestReadsOnlyTheWay: who asks for a range reads no leaf that can't have a key of it.
func TestReadsOnlyTheWay(t *testing.T) {
	state := numbered(300, 4, strings.Repeat("v", 50))
	whole := planted(400, state)
	keys := slices.Sorted(maps.Keys(state))
	sizes := surveyed(t, whole).sizes
	for i, at := 0, 0; i < len(sizes); i++ {
		own := keys[at : at+sizes[i]]
		next := ""
		if at += sizes[i]; at < len(keys) {
			next = keys[at]
		}
		tr := tree.Tree{File: whole.File.Copy(), Root: whole.Root}
		for place := range surveyed(t, whole).places {
			if data, _ := tr.File.Read(place); data[0] == api.Leaf && !strings.Contains(data, own[0]) {
				tr.File.Spoil(place, 100, 1)
			}
		}
		for _, key := range own {
			if e := givenUp(func() { tr.Find(key) }); e != api.OK {
				t.Errorf("Find(%q) gave up with %d", key, e)
			}
		}
		if e := givenUp(func() { pairs(tr, own[0], next) }); e != api.OK {
			t.Errorf("Pairs(%q, %q) gave up with %d", own[0], next, e)
		}
	}
}

// TestPacked: pages are filled to the last byte, and what is left for the last two is shared.
func TestPacked(t *testing.T) {
	for _, c := range []struct {
		many, key int
		value     string
		sizes     []int
		pages     int
	}{
		{5, 10, strings.Repeat("v", 37), []int{5}, 1},
		{6, 10, strings.Repeat("v", 37), []int{3, 3}, 3},
		{15, 10, strings.Repeat("v", 37), []int{5, 5, 5}, 4},
		{10, 19, strings.Repeat("v", 61), []int{10}, 11},
		{11, 19, strings.Repeat("v", 61), []int{6, 5}, 14},
		{20, 22, strings.Repeat("v", 60), []int{2, 2, 2, 2, 2, 2, 2, 2, 2, 2}, 11},
		{20, 23, strings.Repeat("v", 60), []int{2, 2, 2, 2, 2, 2, 2, 2, 2, 2}, 13},
	} {
		s := wantSound(t, planted(100, numbered(c.many, c.key, c.value)))
		if !slices.Equal(s.sizes, c.sizes) || len(s.places) != c.pages {
			t.Errorf("%d keys of %d bytes: leaves of %v entries, %d pages, want %v, %d", c.many, c.key, s.sizes, len(s.places), c.sizes, c.pages)
		}
	}
}

// TestChanges: a later change of a key takes the stead of an earlier one.
func TestChanges(t *testing.T) {
	tr := tree.Tree{File: file.New(40)}
	for _, change := range []tree.Change{{Key: "b", Value: "1"}, {Key: "a", Value: "2"}, {Key: "c", Value: "3"}, {Key: "b", Gone: true}, {Key: "a", Gone: true}, {Key: "a", Value: "4"}} {
		tr.Changes = tr.Changes.With(change)
	}
	if len(tr.Changes) != 3 {
		t.Errorf("changes: %v", tr.Changes)
	}
	wantState(t, tr, map[string]string{"a": "4", "c": "3"})
}

// TestNoRoom: a plan that has too few free places gives up with ErrFull, one that has just enough does not.
func TestNoRoom(t *testing.T) {
	tr := tree.Tree{File: file.New(100), Changes: puts(numbered(20, 5, strings.Repeat("v", 241)))}
	places := free(tr)
	needed := len(tr.Plan(places).Writes)
	for n := range len(places) {
		should := api.OK
		if n < needed {
			should = api.ErrFull
		}
		if e := givenUp(func() { tr.Plan(places[:n]) }); e != should {
			t.Errorf("with %d places of %d: %d, want %d", n, needed, e, should)
		}
	}
}
