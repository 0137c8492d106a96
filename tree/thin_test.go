package tree_test

import (
	"fmt"
	"maps"
	"math/rand"
	"slices"
	"strings"
	"testing"

	"rowan/api"
	"rowan/file"
	"rowan/tree"
)

// loom lays trees with next to nothing in their pages. A tree that is grown gets so thin in some places alone, and by many commits: where all of it is thin, much of what can befall such a place comes about at once.
type loom struct {
	r      *rand.Rand
	f      *file.File
	state  map[string]string
	shorts int // of ten keys so many are short
	place  int // of the last page
	number int // of the last key
}

func newLoom(r *rand.Rand) *loom {
	return &loom{r: r, f: file.New(1500), state: map[string]string{}, shorts: oneOf(r, 0, 2, 5, 8), place: 1}
}

func (l *loom) key(number int) string {
	if l.r.Intn(10) < l.shorts {
		return fmt.Sprintf("%05d", number)
	}
	return fmt.Sprintf("%05d%s", number, strings.Repeat("x", 19))
}

func (l *loom) value() string {
	return strings.Repeat("v", oneOf(l.r, 0, 60, l.r.Intn(61), l.r.Intn(61), 61))
}

func (l *loom) page(p api.Page) int {
	l.place++
	l.f.Write(l.place, tree.Encoded(p))
	return l.place
}

// leaf is a leaf's place and its first key.
func (l *loom) leaf() (int, string) {
	p := api.Page{Kind: api.Leaf}
	for range 1 + l.r.Intn(2) {
		l.number += 1 + l.r.Intn(3)
		key, value := l.key(l.number), l.value()
		l.state[key] = value
		entry := api.Entry{Key: key, Value: value, Size: len(value)}
		if len(value) > api.MaxInline {
			entry.Over, entry.Value = l.page(over(0, len(value))), ""
			l.state[key] = strings.Repeat("d", len(value))
		}
		p.Entries = append(p.Entries, entry)
	}
	return l.page(p), p.Entries[0].Key
}

// tree is the place of the root and the first key of a tree with so many levels of branches.
func (l *loom) tree(levels int) (int, string) {
	if levels == 0 {
		return l.leaf()
	}
	p, first := api.Page{Kind: api.Branch}, ""
	for i := range 2 + l.r.Intn(2)*l.r.Intn(3) {
		kid, key := l.tree(levels - 1)
		p.Kids = append(p.Kids, kid)
		if i == 0 {
			first = key
			continue
		}
		p.Keys = append(p.Keys, key)
	}
	return l.page(p), first
}

// changes takes away much that stands side by side, and puts a little.
func (l *loom) changes() tree.Changes {
	var all tree.Changes
	keys := slices.Sorted(maps.Keys(l.state))
	left := oneOf(l.r, 2, 5, 10, 30)
	for range 1 + l.r.Intn(4) {
		from := l.r.Intn(len(keys))
		for _, key := range keys[from:min(len(keys), from+l.r.Intn(len(keys)))] {
			if _, found := l.state[key]; found && l.r.Intn(left) > 0 {
				all = all.With(tree.Change{Key: key, Gone: true})
				delete(l.state, key)
			}
		}
	}
	for range l.r.Intn(6) {
		key, value := l.key(1+l.r.Intn(l.number)), l.value()
		all = all.With(tree.Change{Key: key, Value: value})
		l.state[key] = value
	}
	return all
}

// TestThinTrees: P11 and P13, whatever goes of a tree, there is one without it whose pages are all right, and no more than it needs.
func TestThinTrees(t *testing.T) {
	for seed := range int64(2000) {
		l := newLoom(rand.New(rand.NewSource(seed)))
		tr := tree.Tree{File: l.f}
		tr.Root, _ = l.tree(2 + l.r.Intn(4))
		l.f.Sync()
		wantState(t, tr, l.state)
		for round := 0; round < 4 && len(l.state) > 0 && !t.Failed(); round++ {
			tr.Changes = l.changes()
			if small := tr.LeftSmall(); small > 0 {
				t.Errorf("%d nodes beside others are too small", small)
			}
			if e := givenUp(func() { tr, _ = grown(tr) }); e != api.OK {
				t.Errorf("P11: the plan gave up with %d", e)
			}
			wantState(t, tr, l.state)
			wantSound(t, tr)
		}
		if t.Failed() {
			t.Fatalf("seed %d", seed)
		}
	}
}

// TestCut: what is cut fits a page, and of several pieces none is too small, whatever the sizes of entries and kids.
func TestCut(t *testing.T) {
	r := rand.New(rand.NewSource(1))
	greatest := 1 + api.MaxKey + 1 + 1 + api.MaxInline
	for range 100000 {
		sizes := make([]int, r.Intn(12))
		low := oneOf(r, 4, 40, 80, greatest)
		for i := range sizes {
			sizes[i] = oneOf(r, greatest, low+r.Intn(greatest-low+1))
		}
		pieces := tree.CutSizes(sizes)
		if again := slices.Concat(pieces...); !slices.Equal(again, sizes) {
			t.Fatalf("%v is cut into %v", sizes, pieces)
		}
		for _, piece := range pieces {
			if n := sum(piece); n > tree.Room || n < tree.Least && len(pieces) > 1 {
				t.Fatalf("%v is cut into %v", sizes, pieces)
			}
		}
	}
}

func sum(list []int) int {
	n := 0
	for _, one := range list {
		n += one
	}
	return n
}
