package rowan_test

import (
	"fmt"
	"maps"
	"math/rand"
	"slices"
	"strings"
	"testing"

	"rowan/api"
	"rowan/file"
	"rowan/rowan"
)

// trial is a store and its model, which are asked the same.
type trial struct {
	t    *testing.T
	r    *rand.Rand
	f    *file.File
	db   *rowan.DB
	m    *model
	keys []string
	told map[api.Errno]int // so often Commit told each answer
	turn turn
}

func newTrial(t *testing.T, seed int64, pages ...int) *trial {
	t.Helper()
	r := rand.New(rand.NewSource(seed))
	many := oneOf(r, pages...)
	c := &trial{t: t, r: r, f: file.New(many), m: newModel(many), told: map[api.Errno]int{}}
	c.keys = someKeys(r, oneOf(r, 3, 10, 40, 150))
	c.db = opened(t, c.f)
	return c
}

func oneOf[T any](r *rand.Rand, values ...T) T { return values[r.Intn(len(values))] }

// someKeys is keys of many lengths, some of which begin alike.
func someKeys(r *rand.Rand, many int) []string {
	var keys []string
	for range many {
		keys = append(keys, strings.Repeat(oneOf(r, "a", "b", "\x00", "\xff"), r.Intn(3))+fmt.Sprint(r.Intn(many*2))+strings.Repeat("x", r.Intn(19)))
	}
	return append(keys, longKey, "\x00", "\xff")
}

func (c *trial) key() string {
	if c.r.Intn(40) == 0 {
		return oneOf(c.r, "", tooLong, "none of them")
	}
	return oneOf(c.r, c.keys...)
}

func (c *trial) value() string {
	if c.r.Intn(50) == 0 {
		return tooGreat
	}
	size := oneOf(c.r, 0, 1, 7, 59, 60, 61, 239, 240, 241, 399, 400)
	return strings.Repeat(string(rune('a'+c.r.Intn(26))), size)
}

// tx is a number of a transaction that is open, most of the time.
func (c *trial) tx() int {
	if len(c.m.open) == 0 || c.r.Intn(30) == 0 {
		return oneOf(c.r, 0, -1, c.m.last, c.m.last+1, 1<<62)
	}
	return oneOf(c.r, slices.Sorted(maps.Keys(c.m.open))...)
}

func (c *trial) step() {
	switch n := c.r.Intn(100); {
	case n < 16:
		c.begin(c.r.Intn(4) > 0)
	case n < 54:
		c.change()
	case n < 64:
		c.get()
	case n < 75:
		c.scan()
	case n < 80:
		c.abort(c.tx())
	case n < 99:
		c.commit(c.tx())
	default:
		c.reopen()
	}
	if c.db == nil {
		return
	}
	if v := c.db.Version(); v != len(c.m.commits) {
		c.t.Errorf("P6: Version() = %d, want %d", v, len(c.m.commits))
	}
}

// steps makes so many steps, with something else ahead of each, as long as there is a store.
func (c *trial) steps(many int, ahead func()) {
	c.t.Helper()
	for i := range many {
		ahead()
		if c.db == nil {
			return
		}
		c.step()
		if c.t.Failed() {
			c.t.Fatalf("step %d, %d pages", i, c.f.Pages())
		}
	}
}

func (c *trial) begin(write bool) int {
	tx, e := c.db.Begin(write)
	if n, should := c.m.begin(write); tx != n || e != should {
		c.t.Errorf("P7: Begin(%v) = %d, %d, want %d, %d", write, tx, e, n, should)
	}
	return tx
}

func (c *trial) change() {
	for tx := c.tx(); c.r.Intn(6) > 0; {
		key, value := c.key(), c.value()
		if c.r.Intn(3) == 0 {
			c.delete(tx, key)
			continue
		}
		c.put(tx, key, value)
	}
}

func (c *trial) put(tx int, key string, value string) {
	want(c.t, fmt.Sprintf("P10: Put(%d, %q, %.9q)", tx, key, value), c.db.Put(tx, key, value), c.m.put(tx, key, value))
}

// excused: P12 and P14, a call that reads told ErrDisk of a dead file, or ErrCorrupt of one with a byte that was turned, which it may in the stead of what it should tell.
func (c *trial) excused(e api.Errno, should api.Errno) bool {
	may := e == api.ErrDisk && c.f.Dead() || e == api.ErrCorrupt && c.turn.on
	return may && should != api.ErrHandle && should != api.ErrRead && should != api.ErrArg
}

func (c *trial) delete(tx int, key string) {
	e := c.db.Delete(tx, key)
	if c.excused(e, c.m.writer(tx, key, func(*modelTx) api.Errno { return api.ErrDisk })) {
		return
	}
	want(c.t, fmt.Sprintf("P10: Delete(%d, %q)", tx, key), e, c.m.delete(tx, key))
}

func (c *trial) get() {
	tx, key := c.tx(), c.key()
	value, e := c.db.Get(tx, key)
	should, answer := c.m.get(tx, key)
	if c.excused(e, answer) {
		should, answer = "", e
	}
	if value != should || e != answer {
		c.t.Errorf("P8: Get(%d, %q) = %.20q, %d, want %.20q, %d", tx, key, value, e, should, answer)
	}
}

func (c *trial) scan() {
	tx, from, to := c.tx(), oneOf(c.r, "", c.key()), oneOf(c.r, "", c.key())
	most := oneOf(c.r, -1, 0, 1, 2, 5, 1<<40)
	list, e := c.db.Scan(tx, from, to, most)
	should, answer := c.m.scan(tx, from, to, most)
	if c.excused(e, answer) {
		should, answer = nil, e
	}
	if !slices.Equal(list, should) || e != answer {
		c.t.Errorf("P8: Scan(%d, %q, %q, %d) = %s, %d, want %s, %d", tx, from, to, most, shown(list), e, shown(should), answer)
	}
	all, _ := c.m.scan(tx, from, to, 1<<40)
	c.each(tx, from, to, all)
}

// each holds Each against what it should tell, or, if it may end early, against the begin of that.
func (c *trial) each(tx int, from string, to string, should []api.Pair) {
	if c.f.Dead() || c.turn.on {
		told := 0
		for range c.db.Each(tx, from, to) {
			told++
		}
		should = should[:min(told, len(should))]
	}
	wantEach(c.t, c.db, tx, from, to, should)
}

func (c *trial) abort(tx int) {
	want(c.t, fmt.Sprintf("P11: Abort(%d)", tx), c.db.Abort(tx), c.m.abort(tx))
}

func (c *trial) commit(tx int) {
	failed, dead := c.f.Failed(), c.f.Dead()
	e := c.db.Commit(tx)
	must := dead || c.f.Failed() > failed
	version := len(c.m.commits)
	should := c.m.commit(tx, e, trouble{may: must || c.f.Dead(), must: must, turned: c.turn.on})
	want(c.t, fmt.Sprintf("P11, P12, P13, P14: Commit(%d)", tx), e, should)
	c.told[e]++
	if len(c.m.commits) > version {
		c.turn.on = false
	}
	if c.r.Intn(5) == 0 {
		c.wantFound()
	}
	for n, other := range c.m.open {
		c.wantSeen(n, other.sees)
	}
}

// wantSeen: P8, a transaction sees this, unless the file can't tell it.
func (c *trial) wantSeen(tx int, should map[string]string) {
	list, e := c.db.Scan(tx, "", "", 1<<40)
	if !c.excused(e, api.OK) && (e != api.OK || !slices.Equal(list, listed(should))) {
		c.t.Errorf("P8: Scan(%d) = %s, %d, want %s", tx, shown(list), e, shown(listed(should)))
	}
}

// wantSure: P8 and P12, what is sure is seen by a transaction that begins now, and found by Open.
func (c *trial) wantSure() {
	tx := c.begin(false)
	c.wantSeen(tx, c.m.sure)
	c.abort(tx)
	c.wantFound()
}

// wantFound: P12 and P14, what Open finds behind a crash that comes now.
func (c *trial) wantFound() {
	f := c.f.Copy()
	f.Crash(anyKeep(c.r))
	db, e := rowan.Open(f)
	if c.isStore(db, e) {
		wantSure(c.t, db, db.Version(), c.known(db))
	}
}

// isStore tells whether Open gave a store of a file that has not failed; P14: it may have told ErrCorrupt.
func (c *trial) isStore(db *rowan.DB, e api.Errno) bool {
	corrupt := e == api.ErrCorrupt && c.turn.on && !c.turn.ofMeta()
	if e != api.OK && !corrupt || (db == nil) != corrupt {
		c.t.Fatalf("P6, P12, P14: Open = %v, %d", db, e)
	}
	return db != nil
}

// known is what there should be in a store that Open found.
func (c *trial) known(db *rowan.DB) map[string]string {
	should, may := c.m.foundBy(db.Version(), c.turn.ofMeta())
	if !may {
		c.t.Fatalf("P12, P14: Version() = %d, but it was %d", db.Version(), len(c.m.commits))
	}
	return should
}

// reopen opens the store anew: behind a crash, if the file does not let it. If a byte was turned, there may be no store any more.
func (c *trial) reopen() {
	failed := c.f.Failed()
	db, e := rowan.Open(c.f)
	if disk := c.f.Dead() || c.f.Failed() > failed; disk != (e == api.ErrDisk) {
		c.t.Errorf("P6, P12: Open = %v, %d; the file is dead: %v; calls that failed: %d", db, e, c.f.Dead(), c.f.Failed()-failed)
	}
	if e == api.ErrDisk {
		c.f.Crash(anyKeep(c.r))
		db, e = rowan.Open(c.f)
	}
	c.db = db
	if !c.isStore(db, e) {
		return
	}
	c.known(db)
	c.m.reopened(db.Version())
	// A page that is wrong is mended, or was not needed.
	c.turn.on = false
	c.wantFound()
}

// TestAsTheModel: P6 to P11 and P13, any calls in any order answer as the document says.
func TestAsTheModel(t *testing.T) {
	full := 0
	for seed := range int64(60) {
		c := newTrial(t, seed, 40, 50, 70, 120, 400, 4096)
		c.steps(600, func() {})
		full += c.told[api.ErrFull]
	}
	if full == 0 {
		t.Error("P13: no Commit told ErrFull: the trial does not reach it")
	}
}

// strike lets something happen to the file, now and then.
func (c *trial) strike() {
	switch n := c.r.Intn(200); {
	case n < 6:
		c.f.Fail(c.r.Intn(12))
	case n < 9:
		c.f.Die(c.r.Intn(12))
	case n < 11 || c.f.Dead() && n < 30:
		// The store may be used on behind it, without Open.
		c.f.Crash(anyKeep(c.r))
	case n < 13 || c.m.failed && n < 40:
		c.reopen()
	}
}

// turn is a byte that is turned, at most once in a trial.
type turn struct {
	done bool
	on   bool // the store may come to it still
	page int
}

// ofMeta tells whether Open may have to fall back.
func (b turn) ofMeta() bool { return b.on && b.page < 2 }

// turnOnce turns a byte, now and then, of any page, where P14 speaks of it.
func (c *trial) turnOnce() {
	if c.turn.done || c.m.failed || c.r.Intn(80) > 0 {
		return
	}
	c.turn = turn{done: true, on: true, page: oneOf(c.r, 0, 1, c.r.Intn(12), c.r.Intn(40), c.r.Intn(c.f.Pages()))}
	c.f.Spoil(c.turn.page, c.r.Intn(api.PageSize), 1+c.r.Intn(255))
}

// TestAsTheModelWithATurnedByte: P6 to P14, any calls in any order answer as the document says when a byte was turned. (By P14 they may tell ErrCorrupt for ever; this store does not behind an Open or a Commit that it did.)
func TestAsTheModelWithATurnedByte(t *testing.T) {
	told, gone := map[api.Errno]int{}, 0
	for seed := range int64(200) {
		c := newTrial(t, seed, 40, 50, 70, 120)
		for _, rough := range []bool{false, true} {
			c.steps(200, func() {
				c.turnOnce()
				if rough && c.db != nil {
					c.strike()
				}
			})
		}
		for e, n := range c.told {
			told[e] += n
		}
		if c.db == nil {
			gone++
		}
	}
	for _, e := range []api.Errno{api.OK, api.ErrHandle, api.ErrConflict, api.ErrFull, api.ErrDisk, api.ErrCorrupt} {
		if told[e] == 0 {
			t.Errorf("P14: no Commit told %d: the trial does not reach it", e)
		}
	}
	if gone == 0 {
		t.Errorf("P14: no Open told %d: the trial does not reach it", api.ErrCorrupt)
	}
}

// TestAsTheModelOnABadFile: P6 to P13, any calls in any order answer as the document says, whatever happens to the file between them and in them.
func TestAsTheModelOnABadFile(t *testing.T) {
	told := map[api.Errno]int{}
	for seed := range int64(100) {
		c := newTrial(t, seed, 40, 50, 70, 120, 400)
		c.steps(600, c.strike)
		for e, n := range c.told {
			told[e] += n
		}
	}
	for _, e := range []api.Errno{api.OK, api.ErrHandle, api.ErrConflict, api.ErrFull, api.ErrDisk} {
		if told[e] == 0 {
			t.Errorf("P11, P12: no Commit told %d: the trial does not reach it", e)
		}
	}
}
