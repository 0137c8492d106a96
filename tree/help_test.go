package tree_test

import (
	"fmt"
	"maps"
	"slices"
	"testing"

	"rowan/api"
	"rowan/file"
	"rowan/page"
	"rowan/tree"
)

// free is the places of a file that a tree does not have.
func free(t tree.Tree) []int {
	used := make([]bool, api.MaxPages)
	t.Mark(used)
	var places []int
	for place := 2; place < t.File.Pages(); place++ {
		if !used[place] {
			places = append(places, place)
		}
	}
	return places
}

// grown writes what a tree is with its changes, and is the tree then; and how many pages were written.
func grown(t tree.Tree) (tree.Tree, int) {
	plan := t.Plan(free(t))
	for _, w := range plan.Writes {
		t.File.Write(w.Place, w.Data)
	}
	t.File.Sync()
	return tree.Tree{File: t.File, Root: plan.Root}, len(plan.Writes)
}

func puts(state map[string]string) tree.Changes {
	var all tree.Changes
	for key, value := range state {
		all = all.With(tree.Change{Key: key, Value: value})
	}
	return all
}

// planted is a tree of a new file that has just this.
func planted(pages int, state map[string]string) tree.Tree {
	t, _ := grown(tree.Tree{File: file.New(pages), Changes: puts(state)})
	return t
}

// numbered is so many keys of so many bytes with the same value.
func numbered(many int, size int, value string) map[string]string {
	m := map[string]string{}
	for i := range many {
		m[fmt.Sprintf("%0*d", size, i)] = value
	}
	return m
}

func listed(state map[string]string) []api.Pair {
	var list []api.Pair
	for _, key := range slices.Sorted(maps.Keys(state)) {
		list = append(list, api.Pair{Key: key, Value: state[key]})
	}
	return list
}

func pairs(t tree.Tree, from string, to string) []api.Pair {
	var list []api.Pair
	for key, value := range t.Pairs(from, to) {
		list = append(list, api.Pair{Key: key, Value: value})
	}
	return list
}

func shown(list []api.Pair) string { return fmt.Sprintf("%d: %.400s", len(list), fmt.Sprint(list)) }

func wantState(t *testing.T, tr tree.Tree, state map[string]string) {
	t.Helper()
	if list := pairs(tr, "", ""); !slices.Equal(list, listed(state)) {
		t.Errorf("the tree has %s, want %s", shown(list), shown(listed(state)))
	}
}

// survey is what goes through a tree by the words of the document alone.
type survey struct {
	t      *testing.T
	f      *file.File
	places map[int]bool
	keys   []string
	overs  int
	leaves []int // how far from the root each leaf is
	sizes  []int // how many entries each leaf has
}

func surveyed(t *testing.T, tr tree.Tree) *survey {
	t.Helper()
	s := &survey{t: t, f: tr.File, places: map[int]bool{}}
	if tr.Root != 0 {
		s.visit(tr.Root, 0)
	}
	if !slices.IsSorted(s.keys) {
		t.Errorf("keys are not in order: %.400q", s.keys)
	}
	return s
}

func (s *survey) visit(place int, depth int) {
	if s.places[place] {
		s.t.Errorf("page %d stands in a tree twice", place)
	}
	s.places[place] = true
	data, _ := s.f.Read(place)
	p, e := page.Decode(data)
	if e != api.OK {
		s.t.Errorf("page %d is none", place)
	}
	switch p.Kind {
	case api.Branch:
		for i, kid := range p.Kids {
			if i > 0 {
				s.parts(p.Keys[i-1], kid, depth+1)
				continue
			}
			s.visit(kid, depth+1)
		}
	case api.Leaf:
		s.leaves = append(s.leaves, depth)
		s.sizes = append(s.sizes, len(p.Entries))
		for _, entry := range p.Entries {
			s.keys = append(s.keys, entry.Key)
			if entry.Over != 0 {
				s.visit(entry.Over, 0)
			}
		}
	case api.Over:
		s.overs++
		if p.Next != 0 {
			s.visit(p.Next, 0)
		}
	default:
		s.t.Errorf("page %d is of the kind %d", place, p.Kind)
	}
}

// parts visits a kid with the key ahead of it, which must part it from what is ahead.
func (s *survey) parts(key string, kid int, depth int) {
	n := len(s.keys)
	if s.keys[n-1] >= key {
		s.t.Errorf("key %q stands ahead of %q", s.keys[n-1], key)
	}
	s.visit(kid, depth)
	if s.keys[n] < key {
		s.t.Errorf("key %q stands behind %q", s.keys[n], key)
	}
}

// wantSound: a tree has its keys in order, all leaves as far from the root, and no more pages than P13 says that it needs.
func wantSound(t *testing.T, tr tree.Tree) *survey {
	t.Helper()
	s := surveyed(t, tr)
	if slices.Max(append(s.leaves, 0)) != slices.Min(append(s.leaves, slices.Max(append(s.leaves, 0)))) {
		t.Errorf("leaves are not equally far from the root: %v", s.leaves)
	}
	if needs := 2 + 2*len(s.keys) + s.overs; len(s.places) > needs {
		t.Errorf("P13: a tree of %d keys has %d pages, needs %d", len(s.keys), len(s.places), needs)
	}
	used := make([]bool, api.MaxPages)
	tr.Mark(used)
	for place, marked := range used {
		if marked != s.places[place] {
			t.Errorf("page %d: marked %v, in the tree %v", place, marked, s.places[place])
		}
	}
	return s
}

// givenUp is with what a call gave up; OK: it did not.
func givenUp(call func()) (e api.Errno) {
	defer func() {
		if up, ok := recover().(tree.GivenUp); ok {
			e = up.Errno
		}
	}()
	call()
	return api.OK
}
