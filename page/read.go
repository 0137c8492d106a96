package page

import "rowan/api"

// reader goes through a page's bytes. Behind their end it finds zeros, so that it gets through any bytes: Decode refuses what was not written so. The bytes are a copy, lest what is read share memory with what was handed in.
type reader struct {
	data []byte
	at   int
}

// read is the page of s, if s is the bytes of one; else any page.
func read(s string) api.Page {
	r := reader{data: []byte(s)}
	p := api.Page{Kind: r.number(countSize)}
	switch p.Kind {
	case api.Meta:
		p.Version = r.number(versionSize)
		p.Root = r.number(numberSize)
	case api.Branch:
		p.Keys, p.Kids = r.branch()
	case api.Leaf:
		for range r.number(countSize) {
			p.Entries = append(p.Entries, r.entry())
		}
	case api.Over:
		p.Next = r.number(numberSize)
		p.Data = r.text()
	}
	return p
}

func (r *reader) branch() (keys []string, kids []int) {
	count := r.number(countSize)
	for range count + 1 {
		kids = append(kids, r.number(numberSize))
	}
	for range count {
		keys = append(keys, r.text())
	}
	return keys, kids
}

func (r *reader) entry() api.Entry {
	entry := api.Entry{Key: r.text()}
	if r.number(countSize) == markInline {
		entry.Value = r.text()
		entry.Size = len(entry.Value)
		return entry
	}
	entry.Size = r.number(numberSize)
	entry.Over = r.number(numberSize)
	return entry
}

// number may wrap round to less than 0, where eight bytes tell more than an int has; no right page has such a number.
func (r *reader) number(size int) int {
	n := uint64(0)
	for range size {
		n = n<<8 | uint64(r.next())
	}
	return int(n)
}

func (r *reader) next() byte {
	if r.at >= len(r.data) {
		return 0
	}
	r.at++
	return r.data[r.at-1]
}

func (r *reader) text() string {
	size := r.number(countSize)
	from := r.at
	r.at = min(from+size, len(r.data))
	return string(r.data[from:r.at])
}
