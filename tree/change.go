package tree

import (
	"cmp"
	"iter"
	"slices"

	"rowan/api"
)

// Change is what becomes of a key: it gets a value, or it is gone.
type Change struct {
	Key   string
	Value string
	Gone  bool
}

// entry has the value in it whatever its length: only in a page that makes a difference.
func (c Change) entry() api.Entry {
	return api.Entry{Key: c.Key, Value: c.Value, Size: len(c.Value)}
}

// Changes have rising keys.
type Changes []Change

// With is the changes with one more, which takes the stead of an earlier one of the same key. It is made of c, which is not to be used any more.
func (c Changes) With(change Change) Changes {
	i, found := c.search(change.Key)
	if found {
		c[i] = change
		return c
	}
	return slices.Insert(c, i, change)
}

// search is where a key stands, or where it would.
func (c Changes) search(key string) (int, bool) {
	return slices.BinarySearchFunc(c, key, func(one Change, key string) int { return cmp.Compare(one.Key, key) })
}

// within is the changes of the keys in a span.
func (c Changes) within(asked span) Changes {
	from, _ := c.search(asked.low)
	to := len(c)
	if asked.high != "" {
		to, _ = c.search(asked.high)
	}
	return c[from:max(from, to)]
}

// tell goes through the entries that the changes make; false: it was left.
func (c Changes) tell(yield func(api.Entry) bool) bool {
	for _, change := range c {
		if !change.Gone && !yield(change.entry()) {
			return false
		}
	}
	return true
}

// overlaid goes through entries with rising keys as they are with changes.
func overlaid(entries iter.Seq[api.Entry], changes Changes) iter.Seq[api.Entry] {
	return func(yield func(api.Entry) bool) {
		rest := changes
		for entry := range entries {
			ahead, changed := rest.search(entry.Key)
			if !rest[:ahead].tell(yield) {
				return
			}
			rest = rest[ahead:]
			if !changed && !yield(entry) {
				return
			}
		}
		rest.tell(yield)
	}
}
