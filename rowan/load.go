package rowan

import (
	"rowan/api"
	"rowan/tree"
)

// load finds the store that the file has. It goes through all of it, so that a page that was turned is told by Open, and not by whoever comes to need it.
func (db *DB) load() api.Errno {
	// What another store could not make sure of may be read by now, but would be lost in a crash.
	if !db.file.Sync() || db.file.Dead() {
		return api.ErrDisk
	}
	sure, ahead := readMetas(db.file)
	if !sure.right {
		return api.ErrCorrupt
	}
	db.sure, db.ahead = sure.page, ahead.page.Root
	used := make([]bool, api.MaxPages)
	db.treeAt(db.sure.Root).Mark(used)
	if !ahead.right || !stands(db.treeAt(db.ahead), used) {
		return db.forget(ahead.place)
	}
	return api.OK
}

// stands tells whether all pages of a tree are right, beside those that are marked.
func stands(t tree.Tree, used []bool) bool {
	e := caught(func() api.Errno {
		t.Mark(used)
		return api.OK
	})
	return e == api.OK
}

// forget lets both Meta pages tell what is sure: the older one was torn or turned, or a page of its tree was. While it stood there would be nothing to fall back upon, or no telling which places are free.
func (db *DB) forget(place int) api.Errno {
	if !db.file.Write(place, tree.Encoded(db.sure)) || !db.file.Sync() || db.file.Dead() {
		return api.ErrDisk
	}
	db.ahead = db.sure.Root
	return api.OK
}
