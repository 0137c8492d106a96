package rowan_test

import (
	"maps"
	"slices"
	"testing"

	"rowan/api"
)

// fate is what becomes of a part of a tree.
type fate int

const (
	stays fate = iota
	goes
	goesButForOne  // of its keys
	goesForAnother // a small one that comes in the stead of all
	goneInto       // each part of it has a fate of its own
)

// clearing is a store of many levels from which parts of its tree go that lie side by side.
type clearing struct {
	*trial
	tx     int
	shorts int // of ten keys so many are short, and so many more of any length
	fates  []fate
	levels int // the most that its tree had
}

func newClearing(t *testing.T, seed int64) *clearing {
	c := &clearing{trial: newTrial(t, seed, 600, 1500, api.MaxPages)}
	c.shorts = oneOf(c.r, 0, 1, 2, 4)
	return c
}

func (c *clearing) key(number int) string {
	switch n := c.r.Intn(10); {
	case n < c.shorts:
		return shortKey(number)
	case n < 2*c.shorts:
		return fullKey(number)[:5+c.r.Intn(20)]
	}
	return fullKey(number)
}

func (c *clearing) value() string {
	return longest[:oneOf(c.r, 60, 60, 60, c.r.Intn(61), c.r.Intn(61), c.r.Intn(401))]
}

// some puts so many keys anywhere.
func (c *clearing) some(many int) {
	for range many {
		c.put(c.tx, c.key(c.r.Intn(10000)), c.value())
	}
}

// under is the keys of a part of the tree, and how many levels it has.
func (c *clearing) under(place int) ([]string, int) {
	var keys []string
	levels := 0
	p := decoded(c.t, c.f, place)
	for _, kid := range p.Kids {
		more, n := c.under(kid)
		keys = append(keys, more...)
		levels = n
	}
	for _, entry := range p.Entries {
		keys = append(keys, entry.Key)
	}
	return keys, levels + 1
}

// befall lets a part of the tree have its fate.
func (c *clearing) befall(place int, what fate) {
	keys, _ := c.under(place)
	stay := -1
	switch what {
	case stays:
		return
	case goneInto:
		c.goInto(place)
		return
	case goesButForOne:
		stay = c.r.Intn(len(keys))
	}
	for i, key := range keys {
		if i != stay {
			c.delete(c.tx, key)
		}
	}
	if what == goesForAnother {
		c.put(c.tx, keys[0][:5], longest[:c.r.Intn(4)])
	}
}

// goInto lets each part of a part have its fate. In a leaf it may be that more comes.
func (c *clearing) goInto(place int) {
	p := decoded(c.t, c.f, place)
	for _, kid := range p.Kids {
		c.befall(kid, oneOf(c.r, c.fates...))
	}
	for _, entry := range p.Entries {
		switch oneOf(c.r, c.fates...) {
		case goes:
			c.delete(c.tx, entry.Key)
		case goneInto:
			c.put(c.tx, entry.Key[:5+c.r.Intn(len(entry.Key)-4)], c.value())
		}
	}
}

// draw draws which fates there are, and how often each is.
func (c *clearing) draw() {
	c.fates = []fate{goneInto}
	for what := range goneInto + 1 {
		for range oneOf(c.r, 0, 1, 3, 9) {
			c.fates = append(c.fates, what)
		}
	}
}

// hold lets transactions begin and end that see what there is.
func (c *clearing) hold() {
	if len(c.m.open) > 0 && c.r.Intn(2) == 0 {
		c.abort(oneOf(c.r, slices.Sorted(maps.Keys(c.m.open))...))
	}
	if len(c.m.open) < 3 && c.r.Intn(3) == 0 {
		c.begin(false)
	}
}

// round is a commit that clears, or, if there is not much, one that puts many.
func (c *clearing) round() {
	c.hold()
	c.tx = c.begin(true)
	if len(c.m.sure) < 60 {
		c.some(oneOf(c.r, 100, 300, 600))
	} else {
		meta, _ := sureMeta(c.t, c.f)
		_, levels := c.under(meta.Root)
		c.levels = max(c.levels, levels)
		c.draw()
		c.goInto(meta.Root)
		c.some(c.r.Intn(4))
	}
	c.commit(c.tx)
}

// TestClearings: P11 and P13, each Commit answers what it should, however much goes at once, in whichever places.
func TestClearings(t *testing.T) {
	told, high := map[api.Errno]int{}, 0
	for seed := range int64(60) {
		c := newClearing(t, seed)
		// With both Meta pages written the root can be read.
		for i := range 2 {
			c.tx = c.begin(true)
			c.some(20 * i)
			c.put(c.tx, fullKey(i), "")
			c.commit(c.tx)
		}
		for range 12 {
			c.round()
		}
		c.wantSure()
		if t.Failed() {
			t.Fatalf("seed %d", seed)
		}
		if c.levels > 3 {
			high++
		}
		for e, n := range c.told {
			told[e] += n
		}
	}
	if told[api.OK] == 0 || told[api.ErrFull] == 0 || high < 20 {
		t.Errorf("P11, P13: the commits told %v; %d stores had more than three levels: the trial does not reach far", told, high)
	}
}
