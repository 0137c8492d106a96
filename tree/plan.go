package tree

import (
	"slices"

	"rowan/api"
	"rowan/page"
)

// Write is a page's bytes and the place for them.
type Write struct {
	Place int
	Data  string
}

// Plan is what must be written for a tree with its changes: in places that were free, and its root then.
type Plan struct {
	Root   int
	Writes []Write
}

// layout gives places to what is to be written.
type layout struct {
	free   []int
	writes []Write
}

// Plan is how the tree stands with its changes in the file; it gives up with ErrFull, if the free places are too few.
func (t Tree) Plan(free []int) Plan {
	l := layout{free: free}
	root := 0
	for _, top := range t.grown() {
		root = l.node(top)
	}
	return Plan{Root: root, Writes: l.writes}
}

func (l *layout) node(n node) int {
	if n.place != 0 {
		return n.place
	}
	if len(n.kids) > 0 {
		return l.branch(n.kids)
	}
	return l.leaf(n.entries)
}

func (l *layout) branch(kids []node) int {
	p := api.Page{Kind: api.Branch}
	for i, kid := range kids {
		p.Kids = append(p.Kids, l.node(kid))
		if i > 0 {
			p.Keys = append(p.Keys, kid.within.low)
		}
	}
	return l.page(p)
}

func (l *layout) leaf(entries []api.Entry) int {
	p := api.Page{Kind: api.Leaf, Entries: slices.Clone(entries)}
	for i, entry := range p.Entries {
		if entry.Over == 0 && entry.Size > api.MaxInline {
			p.Entries[i].Over = l.value(entry.Value)
			p.Entries[i].Value = ""
		}
	}
	return l.page(p)
}

// value is the first page of a value that stands elsewhere; of an empty rest there is none.
func (l *layout) value(rest string) int {
	if rest == "" {
		return 0
	}
	n := min(len(rest), api.MaxOver)
	return l.page(api.Page{Kind: api.Over, Next: l.value(rest[n:]), Data: rest[:n]})
}

func (l *layout) page(p api.Page) int {
	if len(l.free) == 0 {
		giveUp(api.ErrFull)
	}
	place := l.free[0]
	l.free = l.free[1:]
	l.writes = append(l.writes, Write{Place: place, Data: Encoded(p)})
	return place
}

// Encoded is the bytes of a page that is right, unless what the file has is not what was written.
func Encoded(p api.Page) string {
	s, e := page.Encode(p)
	if e != api.OK {
		giveUp(api.ErrCorrupt)
	}
	return s
}
