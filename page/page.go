// Package page: pages: see DOC.md.
package page

import "rowan/api"

// sumSize is how many bytes at a page's end its check sum has.
const sumSize = 4

// Crc32 is a check sum (P3).
func Crc32(data string) int {
	r := ^uint32(0)
	for i := range len(data) {
		r ^= uint32(data[i])
		for range 8 {
			odd := r & 1
			r >>= 1
			if odd == 1 {
				r ^= 0xedb88320
			}
		}
	}
	return int(^r)
}

// Encode writes a page (P4).
func Encode(p api.Page) (string, api.Errno) {
	if !right(p) {
		return "", api.ErrPage
	}
	b := fields(p)
	rest := api.PageSize - sumSize - len(b)
	if rest < 0 {
		return "", api.ErrPage
	}
	b = append(b, make([]byte, rest)...)
	return string(appendNumber(b, sumSize, Crc32(string(b)))), api.OK
}

// Decode reads a page (P5). It reads without asking whether what it reads may be, and then holds s against what Encode makes of it: so the two can't disagree on what a page is.
func Decode(s string) (api.Page, api.Errno) {
	if len(s) != api.PageSize {
		return api.Page{}, api.ErrPage
	}
	p := read(s)
	again, e := Encode(p)
	if e != api.OK || again != s {
		return api.Page{}, api.ErrPage
	}
	return p, api.OK
}
