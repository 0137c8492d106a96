package rowan

import (
	"slices"

	"rowan/api"
	"rowan/tree"
)

// transaction is one that is open.
type transaction struct {
	number int
	writes bool
	tree   tree.Tree           // what was sure when it began, with its own changes
	taken  map[string]struct{} // the keys that others have committed since
}

func isKey(key string) bool { return len(key) >= 1 && len(key) <= api.MaxKey }

func (db *DB) treeAt(root int) tree.Tree { return tree.Tree{File: db.file, Root: root} }

// reader is the open transaction of a number, whether it writes or not.
func (db *DB) reader(tx int) (*transaction, api.Errno) {
	i := db.index(tx)
	if i < 0 {
		return nil, api.ErrHandle
	}
	return db.open[i], api.OK
}

// writer is the open transaction of a number, which must be one that writes.
func (db *DB) writer(tx int) (*transaction, api.Errno) {
	t, e := db.reader(tx)
	if e == api.OK && !t.writes {
		return nil, api.ErrRead
	}
	return t, e
}

// end takes a transaction from those that are open.
func (db *DB) end(tx int) (*transaction, api.Errno) {
	t, e := db.reader(tx)
	if e == api.OK {
		i := db.index(tx)
		db.open = slices.Delete(db.open, i, i+1)
	}
	return t, e
}

func (db *DB) index(tx int) int {
	return slices.IndexFunc(db.open, func(t *transaction) bool { return t.number == tx })
}

// first is the first keys and values that the transaction sees, at most so many.
func (t *transaction) first(from string, to string, most int) []api.Pair {
	var list []api.Pair
	if most == 0 {
		return list
	}
	for key, value := range t.tree.Pairs(from, to) {
		list = append(list, api.Pair{Key: key, Value: value})
		if len(list) == most {
			break
		}
	}
	return list
}

func (t *transaction) change(one tree.Change) { t.tree.Changes = t.tree.Changes.With(one) }

// conflicts tells whether another one has committed a key that this one changed.
func (t *transaction) conflicts() bool {
	for _, change := range t.tree.Changes {
		if _, found := t.taken[change.Key]; found {
			return true
		}
	}
	return false
}

// lose notes that another one has committed these keys.
func (t *transaction) lose(changes tree.Changes) {
	if !t.writes {
		return
	}
	if t.taken == nil {
		t.taken = map[string]struct{}{}
	}
	for _, change := range changes {
		t.taken[change.Key] = struct{}{}
	}
}
