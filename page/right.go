package page

import "rowan/api"

// firstPlace is the first page that another one may name: the two ahead of it have Meta pages.
const firstPlace = 2

// right tells whether a page is right, but for its fitting: that is known when it is written.
func right(p api.Page) bool {
	noMeta := p.Version == 0 && p.Root == 0
	noBranch := len(p.Keys) == 0 && len(p.Kids) == 0
	noLeaf := len(p.Entries) == 0
	noOver := p.Next == 0 && p.Data == ""
	switch p.Kind {
	case api.Meta:
		return noBranch && noLeaf && noOver && rightMeta(p)
	case api.Branch:
		return noMeta && noLeaf && noOver && rightBranch(p)
	case api.Leaf:
		return noMeta && noBranch && noOver && rightLeaf(p)
	case api.Over:
		return noMeta && noBranch && noLeaf && rightOver(p)
	}
	return false
}

func rightMeta(p api.Page) bool {
	return p.Version >= 0 && (p.Root == 0 || isPlace(p.Root))
}

func rightBranch(p api.Page) bool {
	if len(p.Keys) == 0 || len(p.Kids) != len(p.Keys)+1 {
		return false
	}
	for _, kid := range p.Kids {
		if !isPlace(kid) {
			return false
		}
	}
	last := ""
	for _, key := range p.Keys {
		if !follows(last, key) {
			return false
		}
		last = key
	}
	return true
}

func rightLeaf(p api.Page) bool {
	if len(p.Entries) == 0 {
		return false
	}
	last := ""
	for _, entry := range p.Entries {
		if !follows(last, entry.Key) || !rightValue(entry) {
			return false
		}
		last = entry.Key
	}
	return true
}

func rightOver(p api.Page) bool {
	return (p.Next == 0 || isPlace(p.Next)) && len(p.Data) >= 1 && len(p.Data) <= api.MaxOver
}

// rightValue tells whether an entry's value stands inline or elsewhere as it should.
func rightValue(entry api.Entry) bool {
	if isInline(entry) {
		return len(entry.Value) <= api.MaxInline && entry.Size == len(entry.Value)
	}
	return entry.Value == "" && entry.Size > api.MaxInline && entry.Size <= api.MaxValue && isPlace(entry.Over)
}

func isInline(entry api.Entry) bool { return entry.Over == 0 }

func isPlace(n int) bool { return n >= firstPlace && n < api.MaxPages }

// follows tells whether a key is one and is greater than the last. The first has the empty text ahead of it, which is less than every key and is none itself.
func follows(last string, key string) bool {
	return last < key && len(key) <= api.MaxKey
}
