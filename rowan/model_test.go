package rowan_test

import (
	"fmt"
	"maps"
	"math/rand"
	"slices"
	"strings"
	"testing"

	"rowan/api"
	"rowan/file"
	"rowan/rowan"
)

// model is the store once more, by the words of the document: each state is a whole map, and every commit is remembered.
type model struct {
	pages   int
	sure    map[string]string
	ahead   map[string]string
	commits []map[string]bool // the keys that each has changed
	last    int
	open    map[int]*modelTx
}

type modelTx struct {
	writes bool
	since  int // so many commits there were when it began
	began  map[string]string
	sees   map[string]string
	keys   map[string]bool
}

func newModel(pages int) *model {
	return &model{pages: pages, sure: map[string]string{}, ahead: map[string]string{}, open: map[int]*modelTx{}}
}

// reopened is the model behind a second Open: nothing is open.
func (m *model) reopened() {
	m.last = 0
	m.open = map[int]*modelTx{}
}

func (m *model) begin(write bool) (int, api.Errno) {
	if len(m.open) == api.MaxSlots {
		return 0, api.ErrSlots
	}
	m.last++
	m.open[m.last] = &modelTx{writes: write, since: len(m.commits), began: m.sure, sees: maps.Clone(m.sure), keys: map[string]bool{}}
	return m.last, api.OK
}

func validKey(key string) bool { return key != "" && len(key) <= 24 }

func (m *model) get(tx int, key string) (string, api.Errno) {
	t := m.open[tx]
	if t == nil {
		return "", api.ErrHandle
	}
	if !validKey(key) {
		return "", api.ErrArg
	}
	value, found := t.sees[key]
	if !found {
		return "", api.ErrNone
	}
	return value, api.OK
}

func (m *model) scan(tx int, from string, to string, most int) ([]api.Pair, api.Errno) {
	t := m.open[tx]
	if t == nil {
		return nil, api.ErrHandle
	}
	if len(from) > 24 || len(to) > 24 || most < 0 {
		return nil, api.ErrArg
	}
	var list []api.Pair
	for _, pair := range listed(t.sees) {
		if pair.Key >= from && (to == "" || pair.Key < to) && len(list) < most {
			list = append(list, pair)
		}
	}
	return list, api.OK
}

// writer lets an open transaction change a key, if it may.
func (m *model) writer(tx int, key string, will func(t *modelTx) api.Errno) api.Errno {
	t := m.open[tx]
	switch {
	case t == nil:
		return api.ErrHandle
	case !t.writes:
		return api.ErrRead
	case !validKey(key):
		return api.ErrArg
	}
	e := will(t)
	if e == api.OK {
		t.keys[key] = true
	}
	return e
}

func (m *model) put(tx int, key string, value string) api.Errno {
	return m.writer(tx, key, func(t *modelTx) api.Errno {
		if len(value) > 400 {
			return api.ErrArg
		}
		t.sees[key] = value
		return api.OK
	})
}

func (m *model) delete(tx int, key string) api.Errno {
	return m.writer(tx, key, func(t *modelTx) api.Errno {
		if _, found := t.sees[key]; !found {
			return api.ErrNone
		}
		delete(t.sees, key)
		return api.OK
	})
}

func (m *model) abort(tx int) api.Errno {
	if m.open[tx] == nil {
		return api.ErrHandle
	}
	delete(m.open, tx)
	return api.OK
}

// commit is what Commit should answer, and whether it may answer ErrFull in its stead; told is what it did answer.
func (m *model) commit(tx int, told api.Errno) (api.Errno, bool) {
	t := m.open[tx]
	if t == nil {
		return api.ErrHandle, false
	}
	if len(t.keys) == 0 {
		delete(m.open, tx)
		return api.OK, false
	}
	for _, other := range m.commits[t.since:] {
		for key := range other {
			if t.keys[key] {
				delete(m.open, tx)
				return api.ErrConflict, false
			}
		}
	}
	next := maps.Clone(m.sure)
	for key := range t.keys {
		delete(next, key)
		if value, found := t.sees[key]; found {
			next[key] = value
		}
	}
	full := !m.hasRoom(next)
	delete(m.open, tx)
	if full && told == api.ErrFull {
		return api.ErrFull, true
	}
	m.ahead = m.sure
	m.sure = next
	m.commits = append(m.commits, t.keys)
	return api.OK, full
}

// hasRoom: P13, there must be room for a state.
func (m *model) hasRoom(next map[string]string) bool {
	sum := needs(m.sure) + needs(m.ahead) + needs(next) + 2
	for _, t := range m.open {
		sum += needs(t.began)
	}
	return sum <= m.pages
}

// needs is how many pages a tree needs by the words of P13.
func needs(state map[string]string) int {
	sum := 2
	for _, value := range state {
		sum += 2
		if len(value) > 60 {
			sum += (len(value) + 239) / 240
		}
	}
	return sum
}

// trial is a store and its model, which are asked the same.
type trial struct {
	t    *testing.T
	r    *rand.Rand
	f    *file.File
	db   *rowan.DB
	m    *model
	keys []string
	full int // so often Commit told ErrFull
}

func oneOf[T any](r *rand.Rand, values ...T) T { return values[r.Intn(len(values))] }

// someKeys is keys of many lengths, some of which begin alike.
func someKeys(r *rand.Rand, many int) []string {
	var keys []string
	for range many {
		keys = append(keys, strings.Repeat(oneOf(r, "a", "b", "\x00", "\xff"), r.Intn(3))+fmt.Sprint(r.Intn(many*2))+strings.Repeat("x", r.Intn(19)))
	}
	return append(keys, longKey, "\x00", "\xff")
}

func (c *trial) key() string {
	if c.r.Intn(40) == 0 {
		return oneOf(c.r, "", tooLong, "none of them")
	}
	return oneOf(c.r, c.keys...)
}

func (c *trial) value() string {
	if c.r.Intn(50) == 0 {
		return tooGreat
	}
	size := oneOf(c.r, 0, 1, 7, 59, 60, 61, 239, 240, 241, 399, 400)
	return strings.Repeat(string(rune('a'+c.r.Intn(26))), size)
}

// tx is a number of a transaction that is open, most of the time.
func (c *trial) tx() int {
	if len(c.m.open) == 0 || c.r.Intn(30) == 0 {
		return oneOf(c.r, 0, -1, c.m.last, c.m.last+1, 1<<62)
	}
	return oneOf(c.r, slices.Sorted(maps.Keys(c.m.open))...)
}

func (c *trial) step() {
	switch n := c.r.Intn(100); {
	case n < 8:
		c.begin()
	case n < 50:
		c.change()
	case n < 62:
		tx, key := c.tx(), c.key()
		value, should := c.m.get(tx, key)
		wantGet(c.t, c.db, tx, key, value, should)
	case n < 75:
		c.scan()
	case n < 80:
		tx := c.tx()
		want(c.t, "P11: Abort", c.db.Abort(tx), c.m.abort(tx))
	case n < 99:
		c.commit(c.tx())
	default:
		c.db = opened(c.t, c.f)
		c.m.reopened()
	}
}

func (c *trial) begin() {
	write := c.r.Intn(4) > 0
	tx, e := c.db.Begin(write)
	if n, should := c.m.begin(write); tx != n || e != should {
		c.t.Errorf("P7: Begin(%v) = %d, %d, want %d, %d", write, tx, e, n, should)
	}
}

func (c *trial) change() {
	for tx := c.tx(); c.r.Intn(6) > 0; {
		key, value := c.key(), c.value()
		if c.r.Intn(3) == 0 {
			want(c.t, fmt.Sprintf("P10: Delete(%d, %q)", tx, key), c.db.Delete(tx, key), c.m.delete(tx, key))
			continue
		}
		want(c.t, fmt.Sprintf("P10: Put(%d, %q, %.9q)", tx, key, value), c.db.Put(tx, key, value), c.m.put(tx, key, value))
	}
}

func (c *trial) scan() {
	tx, from, to := c.tx(), oneOf(c.r, "", c.key()), oneOf(c.r, "", c.key())
	most := oneOf(c.r, -1, 0, 1, 2, 5, 1<<40)
	list, e := c.db.Scan(tx, from, to, most)
	should, answer := c.m.scan(tx, from, to, most)
	if !slices.Equal(list, should) || e != answer {
		c.t.Errorf("P8: Scan(%d, %q, %q, %d) = %s, %d, want %s, %d", tx, from, to, most, shown(list), e, shown(should), answer)
	}
	all, _ := c.m.scan(tx, from, to, 1<<40)
	wantEach(c.t, c.db, tx, from, to, all)
}

func (c *trial) commit(tx int) {
	e := c.db.Commit(tx)
	should, mayBeFull := c.m.commit(tx, e)
	if e == api.ErrFull {
		c.full++
	}
	if e != should && !(mayBeFull && e == api.ErrFull) {
		c.t.Errorf("P11, P13: Commit(%d) = %d, want %d", tx, e, should)
	}
	version := len(c.m.commits)
	if v := c.db.Version(); v != version {
		c.t.Errorf("P6: Version() = %d, want %d", v, version)
	}
	if c.r.Intn(5) == 0 {
		wantSure(c.t, opened(c.t, c.f.Copy()), version, c.m.sure)
	}
	for n, other := range c.m.open {
		wantScan(c.t, c.db, n, "", "", 1<<40, listed(other.sees))
	}
}

// TestAsTheModel: P6 to P11 and P13, any calls in any order answer as the document says.
func TestAsTheModel(t *testing.T) {
	full := 0
	for seed := range int64(60) {
		r := rand.New(rand.NewSource(seed))
		pages := oneOf(r, 40, 50, 70, 120, 400, 4096)
		c := &trial{t: t, r: r, f: file.New(pages), m: newModel(pages), keys: someKeys(r, oneOf(r, 3, 10, 40, 150))}
		c.db = opened(t, c.f)
		for range 600 {
			c.step()
			if t.Failed() {
				t.Fatalf("seed %d, %d pages", seed, pages)
			}
		}
		full += c.full
	}
	if full == 0 {
		t.Error("P13: no Commit told ErrFull: the trial does not reach it")
	}
}
