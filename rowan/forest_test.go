package rowan_test

import (
	"testing"

	"rowan/api"
	"rowan/file"
	"rowan/page"
	"rowan/rowan"
)

// decoded is the page in a place of a file.
func decoded(t *testing.T, f *file.File, place int) api.Page {
	t.Helper()
	s, _ := f.Read(place)
	p, e := page.Decode(s)
	if e != api.OK {
		t.Fatalf("page %d of the file is none", place)
	}
	return p
}

// placesOf adds the places of a tree, by the words of the document alone, each with its kind.
func placesOf(t *testing.T, f *file.File, root int, places map[int]int) map[int]int {
	t.Helper()
	p := decoded(t, f, root)
	places[root] = p.Kind
	next := append(p.Kids, p.Next)
	for _, entry := range p.Entries {
		next = append(next, entry.Over)
	}
	for _, place := range next {
		if place != 0 {
			placesOf(t, f, place, places)
		}
	}
	return places
}

// sureMeta is the Meta page with the greater version, and its place.
func sureMeta(t *testing.T, f *file.File) (api.Page, int) {
	t.Helper()
	first, second := decoded(t, f, 0), decoded(t, f, 1)
	if first.Version < second.Version {
		return second, 1
	}
	return first, 0
}

// grove is what was sure once, and the places of its tree.
type grove struct {
	state  map[string]string
	places map[int]int
}

func (g grove) stands(place int) bool { return g.places[place] != 0 }

// forest is a store with three trees, each of which has pages of all kinds that the others have not: what a transaction sees that began early, what was sure ahead, and what is sure.
type forest struct {
	f                *file.File
	db               *rowan.DB
	version          int
	old, ahead, last grove
	metaPlace        int // where the Meta page of what is sure stands
	early, late      int // they see old and last
}

// planted plants a forest behind so many commits: which of the two Meta pages is the older one hangs on that.
func planted(t *testing.T, commits int) *forest {
	t.Helper()
	f := file.New(120)
	w := &forest{f: f, db: opened(t, f), version: commits + 4}
	for range commits {
		commitPairs(t, w.db, "early", "x")
	}
	commitState(t, w.db, state("early", "y"))
	w.old = w.grown(t, state("early", "y"), merged(numbered(50, 24, longest[:30]), state("long", longest)))
	w.early = begun(t, w.db, false)
	w.ahead = w.grown(t, w.old.state, state("long", longest[:300]))
	w.last = w.grown(t, w.ahead.state, state("long", longest[:100], "new", longest))
	w.late = begun(t, w.db, false)
	_, w.metaPlace = sureMeta(t, f)
	wantAllKinds(t, w.old, w.ahead, w.last)
	wantAllKinds(t, w.ahead, w.old, w.last)
	wantAllKinds(t, w.last, w.old, w.ahead)
	return w
}

// grown makes sure of changes.
func (w *forest) grown(t *testing.T, from map[string]string, changes map[string]string) grove {
	t.Helper()
	commitState(t, w.db, changes)
	meta, _ := sureMeta(t, w.f)
	return grove{state: merged(from, changes), places: placesOf(t, w.f, meta.Root, map[int]int{})}
}

// wantAllKinds: the trial is worth something only if a grove has pages of all kinds of its own, and shares some.
func wantAllKinds(t *testing.T, g grove, others ...grove) {
	t.Helper()
	own, shared := map[int]int{}, map[int]int{}
	for place, kind := range g.places {
		if others[0].stands(place) || others[1].stands(place) {
			shared[kind]++
		} else {
			own[kind]++
		}
	}
	if own[api.Branch] < 2 || own[api.Leaf] == 0 || own[api.Over] == 0 || shared[api.Branch] == 0 || shared[api.Leaf] == 0 {
		t.Fatalf("a grove has of each kind %v of its own, and shares %v", own, shared)
	}
}

// needed tells whether a Commit must go through the page in a place.
func (w *forest) needed(place int) bool {
	return place == w.metaPlace || w.old.stands(place) || w.ahead.stands(place) || w.last.stands(place)
}

// bytesOf is all pages of a file.
func bytesOf(f *file.File) []string {
	var all []string
	for place := range f.Pages() {
		s, _ := f.Read(place)
		all = append(all, s)
	}
	return all
}
