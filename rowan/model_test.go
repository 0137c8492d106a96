package rowan_test

import (
	"maps"

	"rowan/api"
)

// model is the store once more, by the words of the document: each state is a whole map, and every commit is remembered.
type model struct {
	pages   int
	sure    map[string]string
	ahead   map[string]string
	commits []map[string]bool // the keys that each has changed
	last    int
	open    map[int]*modelTx
	// Behind a Commit that told ErrDisk, till Open: it may have been done, or not.
	failed    bool
	maybe     map[string]string
	maybeKeys map[string]bool
}

// trouble is what a file does in a call: whether ErrDisk may be told of it, and whether it must be; and whether ErrCorrupt may be told.
type trouble struct {
	may, must bool
	turned    bool
}

type modelTx struct {
	writes bool
	since  int // so many commits there were when it began
	began  map[string]string
	sees   map[string]string
	keys   map[string]bool
}

func newModel(pages int) *model {
	return &model{pages: pages, sure: map[string]string{}, ahead: map[string]string{}, open: map[int]*modelTx{}}
}

// foundBy is what Open should find with a version; false: it should not find it. If one of the first two pages was turned, it may have to fall back.
func (m *model) foundBy(version int, turned bool) (map[string]string, bool) {
	switch now := len(m.commits); {
	case version == now:
		return m.sure, true
	case version == now+1 && m.failed:
		return m.maybe, true
	case version == now-1 && turned:
		return m.ahead, true
	}
	return nil, false
}

// reopened is the model behind a second Open, which found a version: nothing is open, and a Commit that told ErrDisk is done, or not.
func (m *model) reopened(version int) {
	switch now := len(m.commits); version {
	case now + 1:
		m.done(m.maybe, m.maybeKeys)
	case now - 1:
		// What was ahead of that is not known any more.
		m.sure, m.ahead = m.ahead, map[string]string{}
		m.commits = m.commits[:version]
	}
	m.last = 0
	m.open = map[int]*modelTx{}
	m.failed, m.maybe, m.maybeKeys = false, nil, nil
}

func (m *model) begin(write bool) (int, api.Errno) {
	if len(m.open) == api.MaxSlots {
		return 0, api.ErrSlots
	}
	m.last++
	m.open[m.last] = &modelTx{writes: write, since: len(m.commits), began: m.sure, sees: maps.Clone(m.sure), keys: map[string]bool{}}
	return m.last, api.OK
}

func validKey(key string) bool { return key != "" && len(key) <= 24 }

func (m *model) get(tx int, key string) (string, api.Errno) {
	t := m.open[tx]
	if t == nil {
		return "", api.ErrHandle
	}
	if !validKey(key) {
		return "", api.ErrArg
	}
	value, found := t.sees[key]
	if !found {
		return "", api.ErrNone
	}
	return value, api.OK
}

func (m *model) scan(tx int, from string, to string, most int) ([]api.Pair, api.Errno) {
	t := m.open[tx]
	if t == nil {
		return nil, api.ErrHandle
	}
	if len(from) > 24 || len(to) > 24 || most < 0 {
		return nil, api.ErrArg
	}
	var list []api.Pair
	for _, pair := range listed(t.sees) {
		if pair.Key >= from && (to == "" || pair.Key < to) && len(list) < most {
			list = append(list, pair)
		}
	}
	return list, api.OK
}

// writer lets an open transaction change a key, if it may.
func (m *model) writer(tx int, key string, will func(t *modelTx) api.Errno) api.Errno {
	t := m.open[tx]
	switch {
	case t == nil:
		return api.ErrHandle
	case !t.writes:
		return api.ErrRead
	case !validKey(key):
		return api.ErrArg
	}
	e := will(t)
	if e == api.OK {
		t.keys[key] = true
	}
	return e
}

func (m *model) put(tx int, key string, value string) api.Errno {
	return m.writer(tx, key, func(t *modelTx) api.Errno {
		if len(value) > 400 {
			return api.ErrArg
		}
		t.sees[key] = value
		return api.OK
	})
}

func (m *model) delete(tx int, key string) api.Errno {
	return m.writer(tx, key, func(t *modelTx) api.Errno {
		if _, found := t.sees[key]; !found {
			return api.ErrNone
		}
		delete(t.sees, key)
		return api.OK
	})
}

func (m *model) abort(tx int) api.Errno {
	if m.open[tx] == nil {
		return api.ErrHandle
	}
	delete(m.open, tx)
	return api.OK
}

// ends is a transaction whose Commit has something to make sure of, and what would be sure then; nil: it has nothing, or it is refused. It is open no more.
func (m *model) ends(tx int) (*modelTx, map[string]string, api.Errno) {
	t := m.open[tx]
	if t == nil {
		return nil, nil, api.ErrHandle
	}
	delete(m.open, tx)
	for _, other := range m.commits[t.since:] {
		for key := range other {
			if t.keys[key] {
				return nil, nil, api.ErrConflict
			}
		}
	}
	if len(t.keys) == 0 {
		return nil, nil, api.OK
	}
	next := maps.Clone(m.sure)
	for key := range t.keys {
		delete(next, key)
		if value, found := t.sees[key]; found {
			next[key] = value
		}
	}
	return t, next, api.OK
}

// commit is what Commit should answer; told is what it did answer, with what the file did meanwhile. ErrFull and ErrDisk are up to the store, where they may be told.
func (m *model) commit(tx int, told api.Errno, disk trouble) api.Errno {
	t, next, e := m.ends(tx)
	if t == nil {
		return e
	}
	switch {
	case told == api.ErrCorrupt && disk.turned:
		return told
	case told == api.ErrFull && !m.hasRoom(t, next):
		return told
	case m.failed:
		return api.ErrDisk
	case disk.must, disk.may && told == api.ErrDisk:
		m.failed = true
		m.maybe, m.maybeKeys = next, t.keys
		return api.ErrDisk
	}
	m.done(next, t.keys)
	return api.OK
}

func (m *model) done(next map[string]string, keys map[string]bool) {
	m.ahead, m.sure = m.sure, next
	m.commits = append(m.commits, keys)
}

// hasRoom: P13, there must be room for what a transaction would make sure of.
func (m *model) hasRoom(own *modelTx, next map[string]string) bool {
	sum := needs(own.began) + needs(m.sure) + needs(m.ahead) + needs(next) + 2
	for _, t := range m.open {
		sum += needs(t.began)
	}
	return sum <= m.pages
}

// needs is how many pages a tree needs by the words of P13.
func needs(state map[string]string) int {
	sum := 2
	for _, value := range state {
		sum += 2
		if len(value) > 60 {
			sum += (len(value) + 239) / 240
		}
	}
	return sum
}
