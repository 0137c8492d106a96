package page_test

import (
	"testing"

	"rowan/api"
	"rowan/page"
)

// cut is the front of a list, with what was behind it as spare room.
func cut[T any](list []T, size int) []T { return list[:size:len(list)] }

// TestSpareRoomIsNotWritten: P2, what stands behind a list that is handed in stays.
func TestSpareRoomIsNotWritten(t *testing.T) {
	keys := []string{"a", "b", "c"}
	kids := []int{2, 3, 4, 5}
	entries := []api.Entry{inline("a", "x"), inline("b", "y"), elsewhere("c", 70, 3)}
	if _, e := page.Encode(branch(cut(keys, 1), cut(kids, 2)...)); e != api.OK {
		t.Errorf("P4: Encode of a branch = %d", e)
	}
	if _, e := page.Encode(leaf(cut(entries, 2)...)); e != api.OK {
		t.Errorf("P4: Encode of a leaf = %d", e)
	}
	if !sameList(keys, []string{"a", "b", "c"}) || !sameList(kids, []int{2, 3, 4, 5}) {
		t.Errorf("P2: Encode changed %v or %v", keys, kids)
	}
	if !sameList(entries, []api.Entry{inline("a", "x"), inline("b", "y"), elsewhere("c", 70, 3)}) {
		t.Errorf("P2: Encode changed %v", entries)
	}
}

// spend writes over all of a list, and over its spare room.
func spend[T any](list []T, with T) {
	list = list[:cap(list)]
	for i := range list {
		list[i] = with
	}
}

// TestListsThatComeOutAreNew: P2, who writes into what Decode gave changes nothing else.
func TestListsThatComeOutAreNew(t *testing.T) {
	for _, want := range []api.Page{
		branch([]string{"a", "b", "c", "d", "e"}, 2, 3, 4, 5, 6, 7),
		leaf(inline("a", "x"), inline("b", "y"), elsewhere("c", 70, 3)),
	} {
		s, _ := page.Encode(want)
		first, _ := page.Decode(s)
		second, _ := page.Decode(s)
		spend(first.Keys, "z")
		if !sameList(first.Kids, want.Kids) {
			t.Errorf("P2: keys and kids share memory")
		}
		spend(first.Kids, -1)
		spend(first.Entries, api.Entry{Key: "z"})
		if !same(second, want) {
			t.Errorf("P2: two pages share memory: %s, want %s", shown(second), shown(want))
		}
		wantDecoded(t, "P2: once more", s, want)
	}
}

// TestCallsAheadDoNotMatter: P2, a call answers the same whatever was called ahead of it.
func TestCallsAheadDoNotMatter(t *testing.T) {
	pages := simple()
	texts := []string{}
	for _, p := range pages {
		s, _ := page.Encode(p)
		texts = append(texts, s)
	}
	for i, p := range pages {
		for j := range pages {
			page.Encode(pages[j])
			page.Decode(texts[j])
			page.Encode(api.Page{Kind: api.Leaf})
			page.Decode("")
			page.Crc32(texts[j])
			wantEncoded(t, "P2: again", p, texts[i])
			wantDecoded(t, "P2: again", texts[i], p)
		}
	}
}
