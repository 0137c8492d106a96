package tree_test

import (
	"strings"
	"testing"

	"rowan/api"
	"rowan/file"
	"rowan/page"
	"rowan/tree"
)

func inline(key string) api.Entry { return api.Entry{Key: key, Value: "x", Size: 1} }

func elsewhere(key string, size int, over int) api.Entry {
	return api.Entry{Key: key, Size: size, Over: over}
}

func leaf(entries ...api.Entry) api.Page { return api.Page{Kind: api.Leaf, Entries: entries} }

func branch(keys string, kids ...int) api.Page {
	return api.Page{Kind: api.Branch, Keys: strings.Split(keys, " "), Kids: kids}
}

func over(next int, size int) api.Page {
	return api.Page{Kind: api.Over, Next: next, Data: strings.Repeat("d", size)}
}

// laid is a tree with the root 2 in a file that has these pages from there on.
func laid(pages ...api.Page) tree.Tree {
	f := file.New(40)
	for i, p := range pages {
		f.Write(2+i, tree.Encoded(p))
	}
	f.Sync()
	return tree.Tree{File: f, Root: 2}
}

// wrongTrees are trees in which a page is not what it should be; each is right by itself.
func wrongTrees() map[string]tree.Tree {
	beyond := laid()
	beyond.Root = api.MaxPages - 1
	return map[string]tree.Tree{
		"the root is no page":                laid(),
		"the root is beyond the file":        beyond,
		"the root is a Meta page":            laid(api.Page{Kind: api.Meta, Root: 3}),
		"the root is an Over page":           laid(over(0, 5)),
		"a kid is no page":                   laid(branch("m", 3, 4), leaf(inline("a"))),
		"a kid is beyond the file":           laid(branch("m", 3, 40), leaf(inline("a"))),
		"a kid is an Over page":              laid(branch("m", 3, 4), leaf(inline("a")), over(0, 5)),
		"the first kid is the branch itself": laid(branch("m", 2, 3), leaf(inline("n"))),
		"the last kid is the branch itself":  laid(branch("m", 3, 2), leaf(inline("a"))),
		"a middle kid is the branch itself":  laid(branch("d m", 3, 2, 4), leaf(inline("a")), leaf(inline("n"))),
		"branches in a ring":                 laid(branch("m", 4, 3), branch("p", 5, 2), leaf(inline("a")), leaf(inline("n"))),
		"two kids are one leaf":              laid(branch("m", 3, 3), leaf(inline("a"))),
		"two kids are one branch":            laid(branch("m", 3, 3), branch("d", 4, 5), leaf(inline("a")), leaf(inline("e"))),
		"a key less than that ahead":         laid(branch("m", 3, 4), leaf(inline("a")), leaf(inline("l"), inline("n"))),
		"a key that of the one behind":       laid(branch("m", 3, 4), leaf(inline("a"), inline("m")), leaf(inline("n"))),
		"a key greater than that behind":     laid(branch("m", 3, 4), leaf(inline("a"), inline("n")), leaf(inline("o"))),
		"a branch's key that of one ahead":   laid(branch("m", 3, 4), leaf(inline("a")), branch("m p", 5, 6, 7), leaf(inline("n")), leaf(inline("o")), leaf(inline("q"))),
		"a branch's key that of one behind":  laid(branch("m", 3, 4), branch("d m", 5, 6, 7), leaf(inline("n")), leaf(inline("a")), leaf(inline("e")), leaf(inline("l"))),
		"a value's page is none":             laid(leaf(elsewhere("a", 61, 3))),
		"a value's page is beyond the file":  laid(leaf(elsewhere("a", 61, 40))),
		"a value's page is a leaf":           laid(leaf(elsewhere("a", 61, 2))),
		"a value is too short":               laid(leaf(elsewhere("a", 61, 3)), over(0, 60)),
		"a value is too long":                laid(leaf(elsewhere("a", 61, 3)), over(0, 62)),
		"a value goes on behind its end":     laid(leaf(elsewhere("a", 61, 3)), over(4, 61), over(0, 5)),
		"a value ends ahead of its end":      laid(leaf(elsewhere("a", 300, 3)), over(0, 240)),
		"a value's first page is not full":   laid(leaf(elsewhere("a", 300, 3)), over(4, 150), over(0, 150)),
		"a value's last page is too short":   laid(leaf(elsewhere("a", 300, 3)), over(4, 240), over(0, 59)),
		"a value's pages in a ring":          laid(leaf(elsewhere("a", 300, 3)), over(3, 240)),
	}
}

// TestWrongTrees: P1, who goes through a tree that is wrong ends, and gives up.
func TestWrongTrees(t *testing.T) {
	for name, tr := range wrongTrees() {
		if e := givenUp(func() { pairs(tr, "", "") }); e != api.ErrCorrupt {
			t.Errorf("%s: going through gave up with %d, want %d", name, e, api.ErrCorrupt)
		}
		for _, key := range []string{"a", "d", "e", "l", "m", "n", "o", "z"} {
			if e := givenUp(func() { tr.Find(key) }); e != api.OK && e != api.ErrCorrupt {
				t.Errorf("%s: Find(%q) gave up with %d", name, key, e)
			}
			if e := givenUp(func() { tr.Mark(make([]bool, api.MaxPages)) }); e != api.OK && e != api.ErrCorrupt {
				t.Errorf("%s: Mark gave up with %d", name, e)
			}
			tr.Changes = tree.Changes{{Key: key, Value: "y"}}
			if e := givenUp(func() { tr.Plan([]int{30, 31, 32, 33, 34}) }); e != api.OK && e != api.ErrCorrupt {
				t.Errorf("%s: Plan gave up with %d", name, e)
			}
		}
	}
}

// TestMarkReadsAll: a page of a tree that is wrong is not taken as free.
func TestMarkReadsAll(t *testing.T) {
	whole := planted(200, numbered(50, 4, strings.Repeat("v", 300)))
	for place := range surveyed(t, whole).places {
		tr := tree.Tree{File: whole.File.Copy(), Root: whole.Root}
		tr.File.Spoil(place, 7, 1)
		if e := givenUp(func() { tr.Mark(make([]bool, api.MaxPages)) }); e != api.ErrCorrupt {
			t.Errorf("page %d is turned: Mark gave up with %d, want %d", place, e, api.ErrCorrupt)
		}
	}
}

// TestUnevenTree: P1, a leaf beside a branch can't be put together with it.
func TestUnevenTree(t *testing.T) {
	for name, tr := range map[string]tree.Tree{
		"leaf first":   laid(branch("m", 3, 4), leaf(inline("a"), inline("b")), branch("p", 5, 6), leaf(inline("n")), leaf(inline("q"))),
		"branch first": laid(branch("c", 4, 3), leaf(inline("d"), inline("e")), branch("b", 5, 6), leaf(inline("a")), leaf(inline("b"))),
	} {
		for _, key := range []string{"a", "d"} {
			tr.Changes = tree.Changes{{Key: key, Gone: true}}
			if e := givenUp(func() { tr.Plan([]int{30, 31, 32, 33}) }); e != api.ErrCorrupt {
				t.Errorf("%s: Plan gave up with %d, want %d", name, e, api.ErrCorrupt)
			}
		}
	}
}

// TestDeadFile: a page that can't be read is not taken for one that is wrong.
func TestDeadFile(t *testing.T) {
	tr := laid(leaf(inline("a"), elsewhere("b", 61, 3)), over(0, 61))
	tr.File.Die(0)
	if e := givenUp(func() { tr.Find("a") }); e != api.ErrDisk {
		t.Errorf("Find gave up with %d, want %d", e, api.ErrDisk)
	}
	if e := givenUp(func() { tr.Mark(make([]bool, api.MaxPages)) }); e != api.ErrDisk {
		t.Errorf("Mark gave up with %d, want %d", e, api.ErrDisk)
	}
}

// TestEncoded: what is no page is not written.
func TestEncoded(t *testing.T) {
	if e := givenUp(func() { tree.Encoded(api.Page{Kind: api.Meta, Version: -1}) }); e != api.ErrCorrupt {
		t.Errorf("Encoded gave up with %d, want %d", e, api.ErrCorrupt)
	}
	if p, e := page.Decode(tree.Encoded(api.Page{Kind: api.Meta, Version: 7, Root: 9})); p.Version != 7 || p.Root != 9 || e != api.OK {
		t.Errorf("Encoded has %v, %d", p, e)
	}
}
