package page

import "rowan/api"

// Marks of where an entry's value stands.
const (
	markInline    = 0
	markElsewhere = 1
)

// How many bytes numbers have.
const (
	countSize   = 1
	numberSize  = 2
	versionSize = 8
)

// fields is the kind and the fields of a page that is right, without the zeros behind them. Where they are too many, what counts them may be cut off; Encode does not use them then.
func fields(p api.Page) []byte {
	b := appendNumber(nil, countSize, p.Kind)
	switch p.Kind {
	case api.Meta:
		b = appendNumber(b, versionSize, p.Version)
		b = appendNumber(b, numberSize, p.Root)
	case api.Branch:
		b = appendBranch(b, p)
	case api.Leaf:
		b = appendNumber(b, countSize, len(p.Entries))
		for _, entry := range p.Entries {
			b = appendEntry(b, entry)
		}
	case api.Over:
		b = appendNumber(b, numberSize, p.Next)
		b = appendText(b, p.Data)
	}
	return b
}

func appendBranch(b []byte, p api.Page) []byte {
	b = appendNumber(b, countSize, len(p.Keys))
	for _, kid := range p.Kids {
		b = appendNumber(b, numberSize, kid)
	}
	for _, key := range p.Keys {
		b = appendText(b, key)
	}
	return b
}

func appendEntry(b []byte, entry api.Entry) []byte {
	b = appendText(b, entry.Key)
	if isInline(entry) {
		b = append(b, markInline)
		return appendText(b, entry.Value)
	}
	b = append(b, markElsewhere)
	b = appendNumber(b, numberSize, entry.Size)
	return appendNumber(b, numberSize, entry.Over)
}

func appendNumber(b []byte, size int, n int) []byte {
	for k := size - 1; k >= 0; k-- {
		b = append(b, byte(n>>(8*k)))
	}
	return b
}

func appendText(b []byte, s string) []byte {
	b = append(b, byte(len(s)))
	return append(b, s...)
}
