package rowan_test

import (
	"fmt"
	"maps"
	"math/rand"
	"slices"
	"strings"
	"testing"

	"rowan/api"
	"rowan/file"
	"rowan/rowan"
)

// trial is a store and its model, which are asked the same.
type trial struct {
	t    *testing.T
	r    *rand.Rand
	f    *file.File
	db   *rowan.DB
	m    *model
	keys []string
	told map[api.Errno]int // so often Commit told each answer
}

func newTrial(t *testing.T, seed int64, pages ...int) *trial {
	t.Helper()
	r := rand.New(rand.NewSource(seed))
	many := oneOf(r, pages...)
	c := &trial{t: t, r: r, f: file.New(many), m: newModel(many), told: map[api.Errno]int{}}
	c.keys = someKeys(r, oneOf(r, 3, 10, 40, 150))
	c.db = opened(t, c.f)
	return c
}

func oneOf[T any](r *rand.Rand, values ...T) T { return values[r.Intn(len(values))] }

// someKeys is keys of many lengths, some of which begin alike.
func someKeys(r *rand.Rand, many int) []string {
	var keys []string
	for range many {
		keys = append(keys, strings.Repeat(oneOf(r, "a", "b", "\x00", "\xff"), r.Intn(3))+fmt.Sprint(r.Intn(many*2))+strings.Repeat("x", r.Intn(19)))
	}
	return append(keys, longKey, "\x00", "\xff")
}

func (c *trial) key() string {
	if c.r.Intn(40) == 0 {
		return oneOf(c.r, "", tooLong, "none of them")
	}
	return oneOf(c.r, c.keys...)
}

func (c *trial) value() string {
	if c.r.Intn(50) == 0 {
		return tooGreat
	}
	size := oneOf(c.r, 0, 1, 7, 59, 60, 61, 239, 240, 241, 399, 400)
	return strings.Repeat(string(rune('a'+c.r.Intn(26))), size)
}

// tx is a number of a transaction that is open, most of the time.
func (c *trial) tx() int {
	if len(c.m.open) == 0 || c.r.Intn(30) == 0 {
		return oneOf(c.r, 0, -1, c.m.last, c.m.last+1, 1<<62)
	}
	return oneOf(c.r, slices.Sorted(maps.Keys(c.m.open))...)
}

func (c *trial) step() {
	switch n := c.r.Intn(100); {
	case n < 16:
		c.begin()
	case n < 54:
		c.change()
	case n < 64:
		c.get()
	case n < 75:
		c.scan()
	case n < 80:
		tx := c.tx()
		want(c.t, "P11: Abort", c.db.Abort(tx), c.m.abort(tx))
	case n < 99:
		c.commit(c.tx())
	default:
		c.reopen()
	}
	if v := c.db.Version(); v != len(c.m.commits) {
		c.t.Errorf("P6: Version() = %d, want %d", v, len(c.m.commits))
	}
}

// steps makes so many steps, with something else ahead of each.
func (c *trial) steps(many int, ahead func()) {
	c.t.Helper()
	for i := range many {
		ahead()
		c.step()
		if c.t.Failed() {
			c.t.Fatalf("step %d, %d pages", i, c.f.Pages())
		}
	}
}

func (c *trial) begin() {
	write := c.r.Intn(4) > 0
	tx, e := c.db.Begin(write)
	if n, should := c.m.begin(write); tx != n || e != should {
		c.t.Errorf("P7: Begin(%v) = %d, %d, want %d, %d", write, tx, e, n, should)
	}
}

func (c *trial) change() {
	for tx := c.tx(); c.r.Intn(6) > 0; {
		key, value := c.key(), c.value()
		if c.r.Intn(3) == 0 {
			c.delete(tx, key)
			continue
		}
		want(c.t, fmt.Sprintf("P10: Put(%d, %q, %.9q)", tx, key, value), c.db.Put(tx, key, value), c.m.put(tx, key, value))
	}
}

// excused: P12, a call that reads told ErrDisk of a dead file, which it may in the stead of what it should tell.
func (c *trial) excused(e api.Errno, should api.Errno) bool {
	return e == api.ErrDisk && c.f.Dead() && should != api.ErrHandle && should != api.ErrRead && should != api.ErrArg
}

func (c *trial) delete(tx int, key string) {
	e := c.db.Delete(tx, key)
	if c.excused(e, c.m.writer(tx, key, func(*modelTx) api.Errno { return api.ErrDisk })) {
		return
	}
	want(c.t, fmt.Sprintf("P10: Delete(%d, %q)", tx, key), e, c.m.delete(tx, key))
}

func (c *trial) get() {
	tx, key := c.tx(), c.key()
	value, e := c.db.Get(tx, key)
	should, answer := c.m.get(tx, key)
	if c.excused(e, answer) {
		should, answer = "", e
	}
	if value != should || e != answer {
		c.t.Errorf("P8: Get(%d, %q) = %.20q, %d, want %.20q, %d", tx, key, value, e, should, answer)
	}
}

func (c *trial) scan() {
	tx, from, to := c.tx(), oneOf(c.r, "", c.key()), oneOf(c.r, "", c.key())
	most := oneOf(c.r, -1, 0, 1, 2, 5, 1<<40)
	list, e := c.db.Scan(tx, from, to, most)
	should, answer := c.m.scan(tx, from, to, most)
	if c.excused(e, answer) {
		should, answer = nil, e
	}
	if !slices.Equal(list, should) || e != answer {
		c.t.Errorf("P8: Scan(%d, %q, %q, %d) = %s, %d, want %s, %d", tx, from, to, most, shown(list), e, shown(should), answer)
	}
	all, _ := c.m.scan(tx, from, to, 1<<40)
	c.each(tx, from, to, all)
}

// each holds Each against what it should tell, or, of a dead file, against the begin of that.
func (c *trial) each(tx int, from string, to string, should []api.Pair) {
	if c.f.Dead() {
		told := 0
		for range c.db.Each(tx, from, to) {
			told++
		}
		should = should[:min(told, len(should))]
	}
	wantEach(c.t, c.db, tx, from, to, should)
}

func (c *trial) commit(tx int) {
	failed, dead := c.f.Failed(), c.f.Dead()
	e := c.db.Commit(tx)
	must := dead || c.f.Failed() > failed
	should := c.m.commit(tx, e, trouble{may: must || c.f.Dead(), must: must})
	want(c.t, fmt.Sprintf("P11, P12, P13: Commit(%d)", tx), e, should)
	c.told[e]++
	if c.r.Intn(5) == 0 {
		c.wantFound()
	}
	if c.f.Dead() {
		return
	}
	for n, other := range c.m.open {
		wantScan(c.t, c.db, n, "", "", 1<<40, listed(other.sees))
	}
}

// wantFound: P12, what Open finds behind a crash that comes now.
func (c *trial) wantFound() {
	f := c.f.Copy()
	f.Crash(anyKeep(c.r))
	db := opened(c.t, f)
	if c.m.failed && db.Version() == len(c.m.commits)+1 {
		wantSure(c.t, db, db.Version(), c.m.maybe)
		return
	}
	wantSure(c.t, db, len(c.m.commits), c.m.sure)
}

// reopen opens the store anew: behind a crash, if the file does not let it.
func (c *trial) reopen() {
	db := tried(c.t, c.f)
	if db == nil {
		c.f.Crash(anyKeep(c.r))
		db = opened(c.t, c.f)
	}
	c.db = db
	c.m.reopened(db.Version())
	c.wantFound()
}

// TestAsTheModel: P6 to P11 and P13, any calls in any order answer as the document says.
func TestAsTheModel(t *testing.T) {
	full := 0
	for seed := range int64(60) {
		c := newTrial(t, seed, 40, 50, 70, 120, 400, 4096)
		c.steps(600, func() {})
		full += c.told[api.ErrFull]
	}
	if full == 0 {
		t.Error("P13: no Commit told ErrFull: the trial does not reach it")
	}
}

// strike lets something happen to the file, now and then.
func (c *trial) strike() {
	switch n := c.r.Intn(200); {
	case n < 6:
		c.f.Fail(c.r.Intn(12))
	case n < 9:
		c.f.Die(c.r.Intn(12))
	case n < 11 || c.f.Dead() && n < 30:
		// The store may be used on behind it, without Open.
		c.f.Crash(anyKeep(c.r))
	case n < 13 || c.m.failed && n < 40:
		c.reopen()
	}
}

// TestAsTheModelOnABadFile: P6 to P13, any calls in any order answer as the document says, whatever happens to the file between them and in them.
func TestAsTheModelOnABadFile(t *testing.T) {
	told := map[api.Errno]int{}
	for seed := range int64(100) {
		c := newTrial(t, seed, 40, 50, 70, 120, 400)
		c.steps(600, c.strike)
		for e, n := range c.told {
			told[e] += n
		}
	}
	for _, e := range []api.Errno{api.OK, api.ErrHandle, api.ErrConflict, api.ErrFull, api.ErrDisk} {
		if told[e] == 0 {
			t.Errorf("P11, P12: no Commit told %d: the trial does not reach it", e)
		}
	}
}
