package page_test

import (
	"fmt"
	"hash/crc32"
	"math/rand"
	"strings"
	"testing"

	"rowan/api"
	"rowan/page"
)

// body is how many bytes of a page stand ahead of its check sum.
const body = 252

// sealed is the bytes of a page that begins so, with zeros and a check sum that does not come from this project.
func sealed(begin string) string {
	s := begin + strings.Repeat("\x00", body-len(begin))
	n := crc32.ChecksumIEEE([]byte(s))
	return s + string([]byte{byte(n >> 24), byte(n >> 16), byte(n >> 8), byte(n)})
}

func inline(key string, value string) api.Entry {
	return api.Entry{Key: key, Value: value, Size: len(value)}
}

func elsewhere(key string, size int, over int) api.Entry {
	return api.Entry{Key: key, Size: size, Over: over}
}

func meta(version int, root int) api.Page {
	return api.Page{Kind: api.Meta, Version: version, Root: root}
}

func branch(keys []string, kids ...int) api.Page {
	return api.Page{Kind: api.Branch, Keys: keys, Kids: kids}
}

func leaf(entries ...api.Entry) api.Page {
	return api.Page{Kind: api.Leaf, Entries: entries}
}

func over(next int, data string) api.Page {
	return api.Page{Kind: api.Over, Next: next, Data: data}
}

// same tells whether two pages tell the same; lists without elements are all alike (P2).
func same(a api.Page, b api.Page) bool {
	return a.Kind == b.Kind && a.Version == b.Version && a.Root == b.Root && a.Next == b.Next && a.Data == b.Data &&
		sameList(a.Keys, b.Keys) && sameList(a.Kids, b.Kids) && sameList(a.Entries, b.Entries)
}

func sameList[T comparable](a []T, b []T) bool {
	if len(a) != len(b) {
		return false
	}
	for i := range a {
		if a[i] != b[i] {
			return false
		}
	}
	return true
}

func copied(p api.Page) api.Page {
	p.Keys = append([]string(nil), p.Keys...)
	p.Kids = append([]int(nil), p.Kids...)
	p.Entries = append([]api.Entry(nil), p.Entries...)
	return p
}

// shown is a page for a test's report, cut where it is long.
func shown(p api.Page) string { return fmt.Sprintf("%.400s", fmt.Sprintf("%#v", p)) }

func wantEncoded(t *testing.T, name string, p api.Page, want string) {
	t.Helper()
	if s, e := page.Encode(p); s != want || e != api.OK {
		t.Errorf("P4: %s: Encode(%s) = %q, %d, want %q", name, shown(p), s, e, want)
	}
}

func wantDecoded(t *testing.T, name string, s string, want api.Page) {
	t.Helper()
	if p, e := page.Decode(s); !same(p, want) || e != api.OK {
		t.Errorf("P5: %s: Decode(%.60q) = %s, %d, want %s", name, s, shown(p), e, shown(want))
	}
}

func wantNotEncoded(t *testing.T, name string, p api.Page) {
	t.Helper()
	if s, e := page.Encode(p); s != "" || e != api.ErrPage {
		t.Errorf("P4: %s: Encode(%s) = %q, %d, want ErrPage", name, shown(p), s, e)
	}
}

func wantNotDecoded(t *testing.T, name string, s string) {
	t.Helper()
	if p, e := page.Decode(s); !same(p, api.Page{}) || e != api.ErrPage {
		t.Errorf("P5: %s: Decode(%.60q) = %s, %d, want ErrPage", name, s, shown(p), e)
	}
}

// anyText is a text of any bytes, of at most so many.
func anyText(r *rand.Rand, most int) string {
	b := make([]byte, r.Intn(most+1))
	for i := range b {
		b[i] = byte(r.Intn(256))
	}
	return string(b)
}

// oneOf takes one of some values, which are the edges of what may be and what lies beyond.
func oneOf[T any](r *rand.Rand, values ...T) T { return values[r.Intn(len(values))] }
