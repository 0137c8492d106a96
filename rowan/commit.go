package rowan

import (
	"rowan/api"
	"rowan/tree"
)

// commit makes sure of what a transaction changed that is open no more (P11).
func (db *DB) commit(t *transaction) api.Errno {
	changes := t.tree.Changes
	if len(changes) == 0 {
		return api.OK
	}
	if t.conflicts() {
		return api.ErrConflict
	}
	if !db.makeSure(changes) {
		db.failed = true
		return api.ErrDisk
	}
	for _, other := range db.open {
		other.lose(changes)
	}
	return api.OK
}

// makeSure lets the file have changes; false: it fails, or what it has is not known since an earlier Commit.
func (db *DB) makeSure(changes tree.Changes) bool {
	// A dead file can't be asked for room.
	if db.file.Dead() {
		return false
	}
	plan, meta := db.plan(changes)
	if db.failed || !db.write(plan, meta) {
		return false
	}
	db.ahead = db.sure.Root
	db.sure = meta
	return true
}

// plan is all that is to be written for changes of what is sure. It is known as a whole ahead of the first write: so ErrFull is told even if the file would fail, or has failed.
func (db *DB) plan(changes tree.Changes) (tree.Plan, api.Page) {
	db.checkMeta()
	next := db.treeAt(db.sure.Root)
	next.Changes = changes
	plan := next.Plan(db.free())
	return plan, api.Page{Kind: api.Meta, Version: db.sure.Version + 1, Root: plan.Root}
}

// free is the places that nothing which must stay stands in: neither what an open transaction sees, nor what is sure, nor what was sure ahead of it, which Open falls back upon.
func (db *DB) free() []int {
	used := make([]bool, api.MaxPages)
	db.treeAt(db.sure.Root).Mark(used)
	db.treeAt(db.ahead).Mark(used)
	for _, t := range db.open {
		t.tree.Mark(used)
	}
	var places []int
	for place := metas; place < db.file.Pages(); place++ {
		if !used[place] {
			places = append(places, place)
		}
	}
	return places
}

// write writes a tree, and the page that tells of it only when all of the tree is safe.
func (db *DB) write(plan tree.Plan, meta api.Page) bool {
	data := tree.Encoded(meta)
	for _, w := range plan.Writes {
		if !db.file.Write(w.Place, w.Data) {
			return false
		}
	}
	return db.file.Sync() && db.file.Write(placeOf(meta), data) && db.file.Sync()
}
