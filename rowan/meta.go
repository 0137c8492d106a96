package rowan

import (
	"rowan/api"
	"rowan/file"
	"rowan/page"
	"rowan/tree"
)

// metas is how many pages at the file's begin are Meta pages. They are written by turns: so one of them stands while the other one is written.
const metas = 2

func placeOf(meta api.Page) int { return meta.Version % metas }

// metaPage is what stands in the place of a Meta page.
type metaPage struct {
	place int
	right bool // else it was torn or turned
	page  api.Page
}

// metaAt reads a Meta page. One that was never written tells of a new store.
func metaAt(f *file.File, place int) metaPage {
	s, _ := f.Read(place)
	if s == string(make([]byte, api.PageSize)) {
		return metaPage{place: place, right: true, page: api.Page{Kind: api.Meta}}
	}
	p, e := page.Decode(s)
	return metaPage{place: place, right: e == api.OK && p.Kind == api.Meta, page: p}
}

// olderThan tells whether another Meta page is to be believed in the stead of this one.
func (m metaPage) olderThan(other metaPage) bool {
	return other.right && (!m.right || m.page.Version < other.page.Version)
}

// readMetas is the Meta page that tells what is sure, and the other one.
func readMetas(f *file.File) (metaPage, metaPage) {
	sure, ahead := metaAt(f, 0), metaAt(f, 1)
	if sure.olderThan(ahead) {
		return ahead, sure
	}
	return sure, ahead
}

// checkMeta gives up, if the page that tells what is sure was turned: it is all there is to fall back upon while the other one is written.
func (db *DB) checkMeta() {
	if !metaAt(db.file, placeOf(db.sure)).right {
		panic(tree.GivenUp{Errno: api.ErrCorrupt})
	}
}
