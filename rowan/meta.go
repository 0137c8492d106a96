package rowan

import (
	"rowan/api"
	"rowan/file"
	"rowan/page"
	"rowan/tree"
)

// metas is how many pages at the file's begin are Meta pages. They are written by turns: so one of them stands while the other one is written.
const metas = 2

func placeOf(meta api.Page) int { return meta.Version % metas }

// metaAt is the Meta page in a place; false: there is none. One that was never written tells of a new store.
func metaAt(f *file.File, place int) (api.Page, bool) {
	s, _ := f.Read(place)
	if s == string(make([]byte, api.PageSize)) {
		return api.Page{Kind: api.Meta}, true
	}
	p, e := page.Decode(s)
	return p, e == api.OK && p.Kind == api.Meta
}

// readMetas is what is sure, and what was sure ahead of it, if that is known. If one of the two pages was torn or turned, it gets what the other one has: else there would be none to fall back upon.
func readMetas(f *file.File) (api.Page, api.Page, api.Errno) {
	sure, first := metaAt(f, 0)
	ahead, second := metaAt(f, 1)
	switch {
	case !first && !second:
		return api.Page{}, api.Page{}, api.ErrCorrupt
	case !first:
		return again(f, 0, ahead)
	case !second:
		return again(f, 1, sure)
	}
	if sure.Version < ahead.Version {
		sure, ahead = ahead, sure
	}
	return sure, ahead, api.OK
}

// again writes the one Meta page there is into the other one's place.
func again(f *file.File, place int, meta api.Page) (api.Page, api.Page, api.Errno) {
	if !f.Write(place, tree.Encoded(meta)) || !f.Sync() || f.Dead() {
		return api.Page{}, api.Page{}, api.ErrDisk
	}
	return meta, meta, api.OK
}

// checkMeta gives up, if the page that tells what is sure was turned: it is all there is to fall back upon while the other one is written.
func (db *DB) checkMeta() {
	meta, found := metaAt(db.file, placeOf(db.sure))
	if !found || meta.Version != db.sure.Version {
		panic(tree.GivenUp{Errno: api.ErrCorrupt})
	}
}
