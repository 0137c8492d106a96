package tree

import (
	"slices"

	"rowan/api"
)

const (
	// room is how many bytes a leaf's entries, or a branch's kids and keys, have in a page: all but the kind, their number and the check sum.
	room = api.PageSize - 1 - 1 - 4
	// least is with how many a page stands alone. A branch of one kid, which is no page, has fewer, and so has a leaf that is better off with its neighbour. No piece of what is cut has fewer.
	least = room / 4
)

// node is a page of the tree that is to be. It is kept in its place, or, if that is 0, loose: a leaf of entries, or a branch of kids.
type node struct {
	within  span // of a loose one low is known alone
	place   int
	entries []api.Entry
	kids    []node
}

func entrySize(entry api.Entry) int {
	if entry.Size > api.MaxInline {
		return 1 + len(entry.Key) + 1 + 2 + 2
	}
	return 1 + len(entry.Key) + 1 + 1 + len(entry.Value)
}

// kidSize counts the key ahead of a kid, although the first kid of a branch has none there.
func kidSize(kid node) int { return 2 + 1 + len(kid.within.low) }

func total[T any](list []T, size func(T) int) int {
	sum := 0
	for _, one := range list {
		sum += size(one)
	}
	return sum
}

// share is how many of a list, from the first on, come nearest to half of all, but fit a page, and how much that is. All is more than a page has room for.
func share[T any](list []T, size func(T) int, all int) (int, int) {
	n, filled := 0, 0
	// One that lies across the middle is taken, if the greater part of it lies ahead.
	for 2*filled+size(list[n]) <= all && filled+size(list[n]) <= room {
		filled += size(list[n])
		n++
	}
	return n, filled
}

// cut parts a list into pieces that fit a page. If they are several, each has at least half of a page less half of the greatest entry: so none is too small, which joined leans on.
func cut[T any](list []T, size func(T) int) [][]T {
	var pieces [][]T
	rest := total(list, size)
	for rest > room {
		n, filled := share(list, size, rest)
		pieces = append(pieces, list[:n])
		list = list[n:]
		rest -= filled
	}
	if len(list) > 0 {
		pieces = append(pieces, list)
	}
	return pieces
}

func newLeaves(entries []api.Entry) []node {
	var all []node
	for _, piece := range cut(entries, entrySize) {
		all = append(all, node{within: span{low: piece[0].Key}, entries: piece})
	}
	return all
}

func newBranches(kids []node) []node {
	var all []node
	for _, piece := range cut(kids, kidSize) {
		all = append(all, node{within: span{low: piece[0].within.low}, kids: piece})
	}
	return all
}

// grown is the root of the tree with its changes, or nothing.
func (t Tree) grown() []node {
	var level []node
	if t.Root == 0 {
		level = newLeaves(slices.Collect(t.Entries("", "")))
	} else {
		level = t.changed(t.Root, span{}, t.Changes)
	}
	for len(level) > 1 {
		level = newBranches(level)
	}
	for len(level) == 1 && len(level[0].kids) == 1 {
		level = level[0].kids
	}
	return level
}

// changed is what stands in the stead of a page with changes: any number of nodes that are as far from the leaves as it was.
func (t Tree) changed(place int, within span, changes Changes) []node {
	p := t.node(place, within)
	if p.Kind == api.Leaf {
		return newLeaves(slices.Collect(overlaid(slices.Values(p.Entries), changes)))
	}
	var all []node
	for kid, part := range kids(p, within) {
		own := changes.within(part)
		if len(own) == 0 {
			all = append(all, node{within: part, place: kid})
			continue
		}
		all = append(all, t.changed(kid, part, own)...)
	}
	return newBranches(t.joined(all))
}

// joined puts each node that is too small together with a neighbour: so none is left, unless it is alone. A branch of one kid must not be left beside others, for it is no page.
func (t Tree) joined(nodes []node) []node {
	var all []node
	for _, n := range nodes {
		next := []node{n}
		// What two become may be too small again, for their kids are joined too: then it is put together with the one ahead of them. Of what is cut into several none is.
		for len(next) == 1 && len(all) > 0 {
			last := len(all) - 1
			if !tooSmall(all[last]) && !tooSmall(next[0]) {
				break
			}
			next = t.together(all[last], next[0])
			all = all[:last]
		}
		all = append(all, next...)
	}
	return all
}

func tooSmall(n node) bool {
	return n.place == 0 && total(n.entries, entrySize)+total(n.kids, kidSize) < least
}

func (t Tree) together(a node, b node) []node {
	a, b = t.loose(a), t.loose(b)
	if len(a.kids) == 0 && len(b.kids) == 0 {
		return newLeaves(slices.Concat(a.entries, b.entries))
	}
	if len(a.entries) > 0 || len(b.entries) > 0 {
		giveUp(api.ErrCorrupt)
	}
	// A kid that was alone in one of the two may be too small itself.
	return newBranches(t.joined(slices.Concat(a.kids, b.kids)))
}

// loose is a node with what stands in its page, so that it can be written anew.
func (t Tree) loose(n node) node {
	if n.place == 0 {
		return n
	}
	p := t.node(n.place, n.within)
	free := node{within: n.within, entries: p.Entries}
	for kid, part := range kids(p, n.within) {
		free.kids = append(free.kids, node{within: part, place: kid})
	}
	return free
}
