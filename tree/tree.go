// Package tree: the trees of pages that a store's keys and values stand in: how they are read, and what a commit makes of them.
//
// A branch has the keys that part its kids: what stands in a kid is not less than the key ahead of it, and less than the key behind it.
package tree

import (
	"iter"
	"strings"

	"rowan/api"
	"rowan/file"
	"rowan/page"
)

// GivenUp is what a call panics with deep in a tree, where it can't go on. The store's face recovers it, and answers its Errno.
type GivenUp struct {
	Errno api.Errno
}

func giveUp(e api.Errno) { panic(GivenUp{Errno: e}) }

// Tree is what stands in a file from a root on (0: nothing), with changes that the file does not have yet.
type Tree struct {
	File    *file.File
	Root    int
	Changes Changes
}

// span is where the keys of a page must lie: not less than low, and less than high, if that is not empty.
type span struct {
	low, high string
}

// meets tells whether there may be a key in both.
func (s span) meets(other span) bool {
	return (s.high == "" || other.low < s.high) && (other.high == "" || s.low < other.high)
}

func (s span) has(key string) bool {
	return key >= s.low && (s.high == "" || key < s.high)
}

// Entries goes through the entries, rising, whose keys are not less than from, and less than to, if that is not empty.
func (t Tree) Entries(from string, to string) iter.Seq[api.Entry] {
	return overlaid(t.stored(span{from, to}), t.Changes.within(span{from, to}))
}

// Pairs goes through the keys of Entries and their values.
func (t Tree) Pairs(from string, to string) iter.Seq2[string, string] {
	return func(yield func(string, string) bool) {
		for entry := range t.Entries(from, to) {
			if !yield(entry.Key, t.Value(entry)) {
				return
			}
		}
	}
}

// Find is the entry of a key; false: there is none.
func (t Tree) Find(key string) (api.Entry, bool) {
	// A change tells of its key without a look into the file.
	if i, changed := t.Changes.search(key); changed {
		return t.Changes[i].entry(), !t.Changes[i].Gone
	}
	// Nothing lies between a key and the same with a byte 0 behind it.
	for entry := range t.stored(span{key, key + "\x00"}) {
		return entry, true
	}
	return api.Entry{}, false
}

// Value is the value of an entry, wherever it stands.
func (t Tree) Value(entry api.Entry) string {
	if entry.Over == 0 {
		return entry.Value
	}
	var b strings.Builder
	for _, p := range t.chain(entry) {
		b.WriteString(p.Data)
	}
	return b.String()
}

// stored goes through what the file has, without the changes.
func (t Tree) stored(asked span) iter.Seq[api.Entry] {
	return func(yield func(api.Entry) bool) {
		if t.Root == 0 {
			return
		}
		for leaf := range t.leaves(t.Root, span{}, asked) {
			for _, entry := range leaf.Entries {
				if asked.has(entry.Key) && !yield(entry) {
					return
				}
			}
		}
	}
}

// leaves goes through the leaves from a place on which may have keys that are asked for.
func (t Tree) leaves(place int, within span, asked span) iter.Seq[api.Page] {
	return func(yield func(api.Page) bool) {
		p := t.node(place, within)
		if p.Kind == api.Leaf {
			yield(p)
			return
		}
		for kid, part := range kids(p, within) {
			if !part.meets(asked) {
				continue
			}
			for leaf := range t.leaves(kid, part, asked) {
				if !yield(leaf) {
					return
				}
			}
		}
	}
}

// kids goes through a branch's kids, with where the keys of each must lie.
func kids(p api.Page, within span) iter.Seq2[int, span] {
	return func(yield func(int, span) bool) {
		part := within
		for i, kid := range p.Kids {
			part.high = within.high
			if i < len(p.Keys) {
				part.high = p.Keys[i]
			}
			if !yield(kid, part) {
				return
			}
			part.low = part.high
		}
	}
}

// chain goes through the pages that an entry's value stands in.
func (t Tree) chain(entry api.Entry) iter.Seq2[int, api.Page] {
	return func(yield func(int, api.Page) bool) {
		if entry.Over == 0 {
			return
		}
		place := entry.Over
		for rest := entry.Size; rest > 0; {
			p := t.load(place)
			if p.Kind != api.Over || len(p.Data) != min(rest, api.MaxOver) {
				giveUp(api.ErrCorrupt)
			}
			rest -= len(p.Data)
			if (p.Next == 0) != (rest == 0) {
				giveUp(api.ErrCorrupt)
			}
			if !yield(place, p) {
				return
			}
			place = p.Next
		}
	}
}

// node is the branch or leaf in a place. Its keys are held against where they must lie: so no page is met twice on a way through a tree, which ends whatever the file has.
func (t Tree) node(place int, within span) api.Page {
	p := t.load(place)
	right := false
	switch p.Kind {
	case api.Branch:
		right = p.Keys[0] > within.low && within.has(p.Keys[len(p.Keys)-1])
	case api.Leaf:
		right = within.has(p.Entries[0].Key) && within.has(p.Entries[len(p.Entries)-1].Key)
	}
	if !right {
		giveUp(api.ErrCorrupt)
	}
	return p
}

// load is the page in a place, whatever its kind.
func (t Tree) load(place int) api.Page {
	s, _ := t.File.Read(place)
	if t.File.Dead() {
		giveUp(api.ErrDisk)
	}
	p, e := page.Decode(s)
	if e != api.OK {
		giveUp(api.ErrCorrupt)
	}
	return p
}

// Mark marks the places of all pages of the file that the tree has. What is marked already is not gone through again: trees share pages.
func (t Tree) Mark(used []bool) {
	if t.Root != 0 {
		t.mark(t.Root, span{}, used)
	}
}

func (t Tree) mark(place int, within span, used []bool) {
	if used[place] {
		return
	}
	used[place] = true
	p := t.node(place, within)
	for kid, part := range kids(p, within) {
		t.mark(kid, part, used)
	}
	for _, entry := range p.Entries {
		for over := range t.chain(entry) {
			used[over] = true
		}
	}
}
