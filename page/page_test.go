package page_test

import (
	"math"
	"strings"
	"testing"

	"rowan/api"
	"rowan/page"
)

var (
	longKey   = strings.Repeat("k", api.MaxKey)
	longValue = strings.Repeat("v", api.MaxInline)
)

// writing is a page and how its bytes begin; zeros and the check sum follow.
type writing struct {
	p     api.Page
	begin string
}

func written() map[string]writing {
	return map[string]writing{
		"meta of the example":  {meta(1, 2), "\x01\x00\x00\x00\x00\x00\x00\x00\x01\x00\x02"},
		"meta of zeros":        {meta(0, 0), "\x01\x00\x00\x00\x00\x00\x00\x00\x00\x00\x00"},
		"meta, each byte":      {meta(0x0102030405060708, 0x0a0b), "\x01\x01\x02\x03\x04\x05\x06\x07\x08\x0a\x0b"},
		"meta, the greatest":   {meta(math.MaxInt64, api.MaxPages-1), "\x01\x7f\xff\xff\xff\xff\xff\xff\xff\x0f\xff"},
		"branch":               {branch([]string{"m"}, 3, 258), "\x02\x01\x00\x03\x01\x02\x01m"},
		"branch of three keys": {branch([]string{"a", "ab", "b"}, 5, 4, 3, 2), "\x02\x03\x00\x05\x00\x04\x00\x03\x00\x02\x01a\x02ab\x01b"},
		"branch, edges":        {branch([]string{"\x00", "\x00\x00", longKey, "\xff"}, 2, 2, 4095, 2, 4095), "\x02\x04\x00\x02\x00\x02\x0f\xff\x00\x02\x0f\xff\x01\x00\x02\x00\x00\x18" + longKey + "\x01\xff"},
		"leaf, empty value":    {leaf(inline("a", "")), "\x03\x01\x01a\x00\x00"},
		"leaf, both":           {leaf(inline("a", "xy"), elsewhere("b", 400, 9)), "\x03\x02\x01a\x00\x02xy\x01b\x01\x01\x90\x00\x09"},
		"leaf, elsewhere":      {leaf(elsewhere("a", 61, 2), elsewhere("b", 400, 4095)), "\x03\x02\x01a\x01\x00\x3d\x00\x02\x01b\x01\x01\x90\x0f\xff"},
		"leaf, long":           {leaf(inline(longKey, longValue)), "\x03\x01\x18" + longKey + "\x00\x3c" + longValue},
		"leaf, bytes order":    {leaf(inline("a\xff", ""), inline("b", "\x00"), inline("\x80", "\xff")), "\x03\x03\x02a\xff\x00\x00\x01b\x00\x01\x00\x01\x80\x00\x01\xff"},
		"over":                 {over(0, "x"), "\x04\x00\x00\x01x"},
		"over, goes on":        {over(300, "xyz"), "\x04\x01\x2c\x03xyz"},
		"over, first next":     {over(2, "\x00"), "\x04\x00\x02\x01\x00"},
		"over, full":           {over(4095, strings.Repeat("d", api.MaxOver)), "\x04\x0f\xff\xf0" + strings.Repeat("d", api.MaxOver)},
	}
}

func TestPagesAndTheirBytes(t *testing.T) {
	for name, c := range written() {
		wantEncoded(t, name, c.p, sealed(c.begin))
		wantDecoded(t, name, sealed(c.begin), c.p)
	}
}

// wrong are pages each of which breaks one rule.
func wrong() map[string]api.Page {
	tooLong := longKey + "k"
	return map[string]api.Page{
		"no kind":                       {},
		"kind below":                    {Kind: -1},
		"kind beyond":                   {Kind: api.Over + 1},
		"kind of more than a byte":      {Kind: 256 + api.Meta},
		"version below 0":               meta(-1, 2),
		"version least":                 meta(math.MinInt64, 0),
		"root below 0":                  meta(1, -1),
		"root 1":                        meta(1, 1),
		"root beyond":                   meta(1, api.MaxPages),
		"root 65538":                    meta(1, 65538),
		"branch of nothing":             branch(nil),
		"branch of one kid":             branch(nil, 2),
		"kids as many as keys":          branch([]string{"a"}, 2),
		"kids two more than keys":       branch([]string{"a"}, 2, 3, 4),
		"keys without kids":             branch([]string{"a"}),
		"first kid 1":                   branch([]string{"a"}, 1, 2),
		"last kid 1":                    branch([]string{"a"}, 2, 1),
		"kid 0":                         branch([]string{"a"}, 0, 2),
		"kid below 0":                   branch([]string{"a"}, 2, -2),
		"kid beyond":                    branch([]string{"a"}, 2, api.MaxPages),
		"branch, empty key":             branch([]string{""}, 2, 3),
		"branch, empty key behind":      branch([]string{"a", ""}, 2, 3, 4),
		"branch, key too long":          branch([]string{tooLong}, 2, 3),
		"branch, last key too long":     branch([]string{"a", tooLong}, 2, 3, 4),
		"branch, keys fall":             branch([]string{"b", "a"}, 2, 3, 4),
		"branch, keys the same":         branch([]string{"a", "a"}, 2, 3, 4),
		"branch, last keys fall":        branch([]string{"a", "c", "b"}, 2, 3, 4, 5),
		"branch, keys fall by a sign":   branch([]string{"\x80", "a"}, 2, 3, 4),
		"branch, keys fall by length":   branch([]string{"aa", "a"}, 2, 3, 4),
		"leaf of nothing":               leaf(),
		"leaf, empty key":               leaf(inline("", "x")),
		"leaf, empty key behind":        leaf(inline("a", "x"), inline("", "x")),
		"leaf, key too long":            leaf(inline(tooLong, "x")),
		"leaf, keys fall":               leaf(inline("b", ""), inline("a", "")),
		"leaf, keys the same":           leaf(inline("a", ""), inline("a", "")),
		"leaf, last keys fall":          leaf(inline("a", ""), inline("c", ""), elsewhere("b", 61, 2)),
		"inline value too long":         leaf(inline("a", longValue+"v")),
		"inline size too small":         leaf(api.Entry{Key: "a", Value: "xy", Size: 1}),
		"inline size too great":         leaf(api.Entry{Key: "a", Value: "xy", Size: 3}),
		"inline size without value":     leaf(api.Entry{Key: "a", Size: 61}),
		"inline size below 0":           leaf(api.Entry{Key: "a", Size: -1}),
		"second entry wrong":            leaf(inline("a", ""), api.Entry{Key: "b", Value: "x"}),
		"elsewhere and inline":          leaf(api.Entry{Key: "a", Value: "x", Size: 61, Over: 2}),
		"elsewhere, size of the inline": leaf(api.Entry{Key: "a", Value: "x", Size: 1, Over: 2}),
		"elsewhere, long and inline":    leaf(api.Entry{Key: "a", Value: longValue + "v", Size: 61, Over: 2}),
		"elsewhere, size 0":             leaf(elsewhere("a", 0, 2)),
		"elsewhere, size 60":            leaf(elsewhere("a", 60, 2)),
		"elsewhere, size 401":           leaf(elsewhere("a", 401, 2)),
		"elsewhere, size below 0":       leaf(elsewhere("a", -61, 2)),
		"elsewhere, over 1":             leaf(elsewhere("a", 61, 1)),
		"elsewhere, over below 0":       leaf(elsewhere("a", 61, -1)),
		"elsewhere, over beyond":        leaf(elsewhere("a", 61, api.MaxPages)),
		"over without data":             over(2, ""),
		"over, data too long":           over(2, strings.Repeat("x", api.MaxOver+1)),
		"over, data 256":                over(2, strings.Repeat("x", 256)),
		"over, next 1":                  over(1, "x"),
		"over, next below 0":            over(-1, "x"),
		"over, next beyond":             over(api.MaxPages, "x"),
	}
}

func TestWrongPages(t *testing.T) {
	for name, p := range wrong() {
		wantNotEncoded(t, name, p)
	}
}

// simple is a right page of each kind.
func simple() []api.Page {
	return []api.Page{meta(1, 2), branch([]string{"m"}, 2, 3), leaf(inline("a", "x")), over(3, "x")}
}

// setting sets one field of a page, and tells which kind has that field.
type setting struct {
	kind int
	set  func(p *api.Page)
}

func settings() []setting {
	return []setting{
		{api.Meta, func(p *api.Page) { p.Version = 1 }},
		{api.Meta, func(p *api.Page) { p.Version = -1 }},
		{api.Meta, func(p *api.Page) { p.Root = 2 }},
		{api.Branch, func(p *api.Page) { p.Keys = []string{"a"} }},
		{api.Branch, func(p *api.Page) { p.Keys = []string{""} }},
		{api.Branch, func(p *api.Page) { p.Kids = []int{2} }},
		{api.Branch, func(p *api.Page) { p.Kids = []int{0} }},
		{api.Leaf, func(p *api.Page) { p.Entries = []api.Entry{inline("a", "")} }},
		{api.Leaf, func(p *api.Page) { p.Entries = []api.Entry{{}} }},
		{api.Over, func(p *api.Page) { p.Next = 2 }},
		{api.Over, func(p *api.Page) { p.Next = -1 }},
		{api.Over, func(p *api.Page) { p.Data = "\x00" }},
	}
}

func TestFieldsOfOtherKinds(t *testing.T) {
	for _, p := range simple() {
		for _, c := range settings() {
			if c.kind == p.Kind {
				continue
			}
			q := p
			c.set(&q)
			wantNotEncoded(t, "a field of another kind", q)
		}
	}
}

func TestListsWithoutElementsAreAlike(t *testing.T) {
	for _, p := range simple() {
		want, _ := page.Encode(p)
		q := p
		if q.Keys == nil {
			q.Keys, q.Kids = []string{}, []int{}
		}
		if q.Entries == nil {
			q.Entries = []api.Entry{}
		}
		wantEncoded(t, "P2: lists that are empty, not nil", q, want)
	}
	wantNotEncoded(t, "P2: no entries", api.Page{Kind: api.Leaf, Entries: []api.Entry{}})
	wantNotEncoded(t, "P2: no keys", api.Page{Kind: api.Branch, Keys: []string{}, Kids: []int{2}})
}

// leafOf is a leaf whose fields have so many bytes: three entries of 64, and one.
func leafOf(size int) api.Page {
	last := size - 1 - 3*64 - 4
	return leaf(inline("a", longValue), inline("b", longValue), inline("c", longValue), inline("d", strings.Repeat("v", last)))
}

// branchOf is a branch whose fields have so many bytes: 11 kids, nine keys of 22 bytes, and one.
func branchOf(size int) api.Page {
	keys := []string{}
	for i := range 9 {
		keys = append(keys, string(rune('a'+i))+strings.Repeat("k", 21))
	}
	last := size - 1 - 11*2 - 9*23 - 1
	return branch(append(keys, strings.Repeat("x", last)), 2, 3, 4, 5, 6, 7, 8, 9, 10, 11, 12)
}

func TestWhatFits(t *testing.T) {
	for _, size := range []int{240, 249, 250, 251} {
		for _, p := range []api.Page{leafOf(size), branchOf(size)} {
			s, e := page.Encode(p)
			if e != api.OK || len(s) != api.PageSize {
				t.Errorf("P4: Encode of %d bytes of fields = %d bytes, %d", size, len(s), e)
			}
			wantDecoded(t, "what fits", s, p)
		}
	}
	for _, size := range []int{252, 253, 254, 255} {
		wantNotEncoded(t, "a leaf that does not fit", leafOf(size))
		wantNotEncoded(t, "a branch that does not fit", branchOf(size))
	}
}

// key is a key of three bytes; they rise with n.
func key(n int) string { return string([]byte{byte(n >> 16), byte(n >> 8), byte(n)}) }

func TestMoreThanAByteCounts(t *testing.T) {
	for _, count := range []int{62, 63, 255, 256, 257, 300, 512, 70000} {
		entries, keys, kids := []api.Entry{}, []string{}, []int{2}
		for n := range count {
			entries = append(entries, inline(key(n), ""))
			keys = append(keys, key(n))
			kids = append(kids, 3)
		}
		wantNotEncoded(t, "too many entries", leaf(entries...))
		wantNotEncoded(t, "too many keys", branch(keys, kids...))
	}
	const most = 62
	keys, kids := []string{}, []int{2}
	for n := range most {
		keys = append(keys, string(rune(1+n)))
		kids = append(kids, 2+n)
	}
	p := branch(keys, kids...)
	if s, e := page.Encode(p); e != api.OK {
		t.Errorf("P4: Encode of a branch of %d keys = %d", most, e)
	} else {
		wantDecoded(t, "as many keys as there can be", s, p)
	}
}

// wrongBytes are texts that are no page's bytes, though their check sum is right where they have one.
func wrongBytes() map[string]string {
	good := sealed("\x03\x02\x01a\x00\x02xy\x01b\x01\x01\x90\x00\x09")
	full := "\x03\x04\x01a\x00\x3c" + longValue + "\x01b\x00\x3c" + longValue + "\x01c\x00\x3c" + longValue
	return map[string]string{
		"nothing":                       "",
		"a byte":                        "\x01",
		"a byte too few":                good[:api.PageSize-1],
		"a byte too many":               good + "\x00",
		"twice":                         good + good,
		"a new file's page":             strings.Repeat("\x00", api.PageSize),
		"all bits":                      strings.Repeat("\xff", api.PageSize),
		"check sum turned round":        good[:body] + string([]byte{good[255], good[254], good[253], good[252]}),
		"check sum 0":                   good[:body] + "\x00\x00\x00\x00",
		"kind 0":                        sealed(""),
		"kind 5":                        sealed("\x05"),
		"kind 255":                      sealed("\xff"),
		"version too great":             sealed("\x01\x80"),
		"version of all bits":           sealed("\x01\xff\xff\xff\xff\xff\xff\xff\xff"),
		"root 1":                        sealed("\x01\x00\x00\x00\x00\x00\x00\x00\x01\x00\x01"),
		"root 4096":                     sealed("\x01\x00\x00\x00\x00\x00\x00\x00\x01\x10\x00"),
		"no keys":                       sealed("\x02\x00\x00\x02"),
		"empty key":                     sealed("\x02\x01\x00\x02\x00\x03\x00"),
		"kid 1":                         sealed("\x02\x01\x00\x02\x00\x01\x01a"),
		"kid 4096":                      sealed("\x02\x01\x10\x00\x00\x02\x01a"),
		"keys fall":                     sealed("\x02\x02\x00\x02\x00\x03\x00\x04\x01b\x01a"),
		"keys the same":                 sealed("\x02\x02\x00\x02\x00\x03\x00\x04\x01a\x01a"),
		"branch, key of 25 bytes":       sealed("\x02\x01\x00\x02\x00\x03\x19" + longKey + "k"),
		"one key more than there is":    sealed("\x02\x02\x00\x02\x00\x03\x00\x04\x01b"),
		"one key less than there is":    sealed("\x02\x01\x00\x02\x00\x03\x01a\x01b"),
		"255 keys":                      sealed("\x02\xff"),
		"255 keys, all bits":            sealed("\x02" + strings.Repeat("\xff", 251)),
		"no entries":                    sealed("\x03\x00"),
		"leaf, empty key":               sealed("\x03\x01\x00\x00\x00"),
		"leaf, key of 25 bytes":         sealed("\x03\x01\x19" + longKey + "k\x00\x00"),
		"entries fall":                  sealed("\x03\x02\x01b\x00\x00\x01a\x00\x00"),
		"entries the same":              sealed("\x03\x02\x01a\x00\x00\x01a\x00\x00"),
		"mark 2":                        sealed("\x03\x01\x01a\x02\x00"),
		"mark 2, else elsewhere":        sealed("\x03\x01\x01a\x02\x01\x90\x00\x09"),
		"mark 255":                      sealed("\x03\x01\x01a\xff\x01\x90\x00\x09"),
		"inline value of 61 bytes":      sealed("\x03\x01\x01a\x00\x3d" + longValue + "v"),
		"elsewhere, size 60":            sealed("\x03\x01\x01a\x01\x00\x3c\x00\x09"),
		"elsewhere, size 401":           sealed("\x03\x01\x01a\x01\x01\x91\x00\x09"),
		"elsewhere, size 0 and over 0":  sealed("\x03\x01\x01a\x01"),
		"elsewhere, over 0":             sealed("\x03\x01\x01a\x01\x01\x90\x00\x00"),
		"elsewhere, over 1":             sealed("\x03\x01\x01a\x01\x01\x90\x00\x01"),
		"elsewhere, over 4096":          sealed("\x03\x01\x01a\x01\x01\x90\x10\x00"),
		"one entry more than there is":  sealed("\x03\x02\x01a\x00\x00"),
		"one entry less than there is":  sealed("\x03\x01\x01a\x00\x00\x01b\x00\x00"),
		"255 entries":                   sealed("\x03\xff"),
		"key beyond the end":            sealed("\x03\x01\xff"),
		"value reaches the check sum":   sealed(full + "\x01d\x00\x37" + strings.Repeat("v", 54)),
		"value goes beyond the end":     sealed(full + "\x01d\x00\x3c" + strings.Repeat("v", 54)),
		"a fifth entry at the very end": sealed("\x03\x05" + full[2:] + "\x01d\x00\x36" + strings.Repeat("v", 54)),
		"no data":                       sealed("\x04\x00\x00\x00"),
		"data of 241 bytes":             sealed("\x04\x00\x00\xf1" + strings.Repeat("d", 241)),
		"data beyond the end":           sealed("\x04\x00\x00\xff" + strings.Repeat("d", 248)),
		"next 1":                        sealed("\x04\x00\x01\x01x"),
		"next 4096":                     sealed("\x04\x10\x00\x01x"),
		"data longer than told":         sealed("\x04\x00\x00\x01xx"),
	}
}

func TestWrongBytes(t *testing.T) {
	for name, s := range wrongBytes() {
		wantNotDecoded(t, name, s)
	}
}

func TestWhatStandsBehindTheFields(t *testing.T) {
	for name, c := range written() {
		for at := len(c.begin); at < body; at++ {
			gap := strings.Repeat("\x00", at-len(c.begin))
			wantNotDecoded(t, name, sealed(c.begin+gap+"\x01"))
		}
	}
}

func TestEachByteTurned(t *testing.T) {
	for _, p := range simple() {
		s, _ := page.Encode(p)
		for at := range len(s) {
			for by := 1; by < 256; by++ {
				b := []byte(s)
				b[at] ^= byte(by)
				if q, e := page.Decode(string(b)); !same(q, api.Page{}) || e != api.ErrPage {
					t.Fatalf("P5: kind %d, byte %d turned by %d: Decode = %s, %d", p.Kind, at, by, shown(q), e)
				}
			}
		}
	}
}
