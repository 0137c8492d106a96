package page_test

import (
	"math"
	"math/rand"
	"slices"
	"strings"
	"testing"

	"rowan/api"
	"rowan/page"
)

// anyNumber is a number at an edge of those that pages name, or anywhere.
func anyNumber(r *rand.Rand) int {
	return oneOf(r, 0, 1, 2, 3, 59, 60, 61, 240, 255, 256, 400, 401, 4095, 4096, 65535, 65538, -1, -2, math.MaxInt, math.MinInt, r.Int())
}

func anyPlace(r *rand.Rand) int {
	if r.Intn(20) == 0 {
		return anyNumber(r)
	}
	return oneOf(r, 2, 3, 4095, 2+r.Intn(api.MaxPages-2))
}

// risingKeys are rising keys, of which now and then one is wrong.
func risingKeys(r *rand.Rand) []string {
	keys := []string{}
	for range r.Intn(8) {
		keys = append(keys, anyText(r, oneOf(r, 2, api.MaxKey)))
	}
	slices.Sort(keys)
	if r.Intn(4) > 0 {
		keys = slices.DeleteFunc(slices.Compact(keys), func(k string) bool { return k == "" })
	}
	if len(keys) > 0 && r.Intn(10) == 0 {
		keys[r.Intn(len(keys))] = anyText(r, api.MaxKey+2)
	}
	return keys
}

func anyEntry(r *rand.Rand, key string) api.Entry {
	e := inline(key, anyText(r, oneOf(r, 3, api.MaxInline, api.MaxInline+1)))
	if r.Intn(3) == 0 {
		e = elsewhere(key, oneOf(r, 61, 62, 240, 400), anyPlace(r))
	}
	if r.Intn(30) == 0 {
		e.Size = anyNumber(r)
	}
	if r.Intn(30) == 0 {
		e.Over = anyNumber(r)
	}
	return e
}

func anyEntries(r *rand.Rand) []api.Entry {
	entries := []api.Entry{}
	for _, k := range risingKeys(r) {
		entries = append(entries, anyEntry(r, k))
	}
	return entries
}

// anyPage is a page that is right about as often as not.
func anyPage(r *rand.Rand) api.Page {
	p := api.Page{}
	switch r.Intn(4) {
	case 0:
		p = meta(oneOf(r, 0, 1, r.Int(), -r.Int()), oneOf(r, 0, anyPlace(r)))
	case 1:
		keys, kids := risingKeys(r), []int{}
		for range len(keys) + 1 {
			kids = append(kids, anyPlace(r))
		}
		p = branch(keys, kids...)
	case 2:
		p = leaf(anyEntries(r)...)
	case 3:
		p = over(oneOf(r, 0, anyPlace(r)), anyText(r, oneOf(r, 2, api.MaxOver, api.MaxOver+2)))
	}
	if r.Intn(10) == 0 {
		p.Kind = anyNumber(r)
	}
	if r.Intn(10) == 0 {
		oneOf(r, settings()...).set(&p)
	}
	return p
}

// judged is the bytes of a page, if it is right, told a second time and otherwise than the program does: as one text, which is refused where it must be.
func judged(p api.Page) (string, bool) {
	bare := api.Page{Kind: p.Kind}
	ok, s := true, string([]byte{byte(p.Kind)})
	two := func(n int) string { return string([]byte{byte(n / 256), byte(n % 256)}) }
	text := func(t string) string { return string([]byte{byte(len(t))}) + t }
	place := func(n int) bool { return 2 <= n && n <= 4095 }
	keys := []string{}
	switch p.Kind {
	case 1:
		bare.Version, bare.Root = p.Version, p.Root
		ok = p.Version >= 0 && (p.Root == 0 || place(p.Root))
		for shift := 56; shift >= 0; shift -= 8 {
			s += string([]byte{byte(uint64(p.Version) >> shift)})
		}
		s += two(p.Root)
	case 2:
		bare.Keys, bare.Kids, keys = p.Keys, p.Kids, p.Keys
		ok = len(keys) > 0 && len(p.Kids) == len(keys)+1
		s += string([]byte{byte(len(keys))})
		for _, kid := range p.Kids {
			ok = ok && place(kid)
			s += two(kid)
		}
		for _, k := range keys {
			s += text(k)
		}
	case 3:
		bare.Entries = p.Entries
		ok = len(p.Entries) > 0
		s += string([]byte{byte(len(p.Entries))})
		for _, e := range p.Entries {
			keys = append(keys, e.Key)
			here := e.Over == 0 && e.Size == len(e.Value) && e.Size <= 60
			there := e.Value == "" && e.Size >= 61 && e.Size <= 400 && place(e.Over)
			ok = ok && (here || there)
			if s += text(e.Key); here {
				s += "\x00" + text(e.Value)
			} else {
				s += "\x01" + two(e.Size) + two(e.Over)
			}
		}
	case 4:
		bare.Next, bare.Data = p.Next, p.Data
		ok = (p.Next == 0 || place(p.Next)) && p.Data != "" && len(p.Data) <= 240
		s += two(p.Next) + text(p.Data)
	default:
		return "", false
	}
	for i, k := range keys {
		ok = ok && len(k) >= 1 && len(k) <= 24 && (i == 0 || keys[i-1] < k)
	}
	if !ok || !same(p, bare) || len(s) > 252 {
		return "", false
	}
	return sealed(s), true
}

// TestAnyPage holds P1, P2, P4 and P5 against pages of all sorts.
func TestAnyPage(t *testing.T) {
	r := rand.New(rand.NewSource(2))
	counts := [5]int{}
	for range 40000 {
		p := anyPage(r)
		before := copied(p)
		want, ok := judged(p)
		if !ok {
			counts[0]++
			wantNotEncoded(t, "any page", p)
		} else {
			counts[p.Kind]++
			wantEncoded(t, "any page", p, want)
			wantDecoded(t, "any page", want, p)
		}
		if !same(p, before) {
			t.Fatalf("P2: Encode changed %s to %s", shown(before), shown(p))
		}
		if t.Failed() {
			return
		}
	}
	for kind, n := range counts {
		if n < 1000 {
			t.Errorf("only %d pages of kind %d (0: wrong ones) were tried", n, kind)
		}
	}
}

// turned is the bytes of a right page with one to three bytes set otherwise and the check sum made right again.
func turned(r *rand.Rand, s string) string {
	b := []byte(s[:body])
	for range 1 + r.Intn(3) {
		b[r.Intn(oneOf(r, 16, body))] = oneOf(r, 0, 1, 2, 3, 4, 24, 25, 60, 61, 255, byte(r.Intn(256)))
	}
	return sealed(string(b))
}

// TestAnyBytes holds P1 and P5 against texts near the bytes of pages: what is read must be what tells these bytes.
func TestAnyBytes(t *testing.T) {
	r := rand.New(rand.NewSource(3))
	read, refused := 0, 0
	for range 40000 {
		s, ok := judged(anyPage(r))
		if !ok {
			continue
		}
		s = turned(r, s)
		p, e := page.Decode(s)
		if e != api.OK {
			refused++
			wantNotDecoded(t, "any bytes", s)
			continue
		}
		read++
		if again, ok := judged(p); !ok || again != s {
			t.Fatalf("P5: Decode(%q) = %s, which has other bytes", s, shown(p))
		}
	}
	if read < 1000 || refused < 1000 {
		t.Errorf("only %d texts were read, and %d refused", read, refused)
	}
}

// TestAnyText holds P1 against texts that have nothing of a page, of all lengths.
func TestAnyText(t *testing.T) {
	r := rand.New(rand.NewSource(4))
	for range 3000 {
		wantNotDecoded(t, "any text", anyText(r, 600))
		b := []byte(anyText(r, body))
		if len(b) > 0 {
			b[0] = byte(r.Intn(6))
		}
		s := sealed(string(b))
		if p, e := page.Decode(s); e == api.OK {
			wantEncoded(t, "any text", p, s)
		} else {
			wantNotDecoded(t, "any text", s)
		}
	}
	wantNotDecoded(t, "a very long text", strings.Repeat("\x01", 1<<22))
}

func TestTheGreatestPages(t *testing.T) {
	long := strings.Repeat("x", 1<<22)
	wantNotEncoded(t, "a very long key", branch([]string{long}, 2, 3))
	wantNotEncoded(t, "a very long key", leaf(inline(long, "")))
	wantNotEncoded(t, "a very long value", leaf(inline("a", long)))
	wantNotEncoded(t, "very long data", over(0, long))
	wantNotEncoded(t, "very many kids", branch([]string{"a"}, make([]int, 1<<20)...))
	wantNotEncoded(t, "very many keys", branch(make([]string, 1<<20), make([]int, 1<<20+1)...))
	wantNotEncoded(t, "very many entries", leaf(make([]api.Entry, 1<<20)...))
}
