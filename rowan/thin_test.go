package rowan_test

import (
	"fmt"
	"math/rand"
	"strings"
	"testing"

	"rowan/api"
)

// thinning is a store of long keys and a few short ones that gets thinner by each commit: the last one leaves single leaves of many branches, which are put together over several levels.
type thinning struct {
	*trial
	tx   int
	vary *rand.Rand // which lets one of some numbers be another; nil: none
	some int
}

func shortKey(n int) string { return fmt.Sprintf("%05d", n) }

func fullKey(n int) string { return shortKey(n) + strings.Repeat("x", 19) }

// near is a number, or one that differs by at most so much.
func (s *thinning) near(n int, by int) int {
	if s.vary == nil || s.vary.Intn(s.some) > 0 {
		return n
	}
	return n + s.vary.Intn(2*by+1) - by
}

// put gives a key a value that lets its entry in a leaf have so many bytes.
func (s *thinning) put(key string, size int) {
	value := s.near(size, 3) - 3 - len(key)
	s.trial.put(s.tx, key, longest[:min(max(value, 0), api.MaxInline)])
}

// gone takes all keys of these groups away, of ten numbers each.
func (s *thinning) gone(from int, to int) {
	first, last := shortKey(s.near(from, 1)*10), shortKey(s.near(to, 1)*10+10)
	for _, pair := range listed(s.m.open[s.tx].sees) {
		if pair.Key >= first && pair.Key < last {
			s.delete(s.tx, pair.Key)
		}
	}
}

func (s *thinning) fill() {
	for i := range 414 {
		switch i {
		case 98, 116:
			s.put(shortKey(i*10), 68)
			s.put(fullKey(i*10+4), 87)
		case 97, 115:
			s.put(fullKey(i*10), 87)
			s.put(fullKey(i*10+4), 60)
		default:
			s.put(fullKey(i*10), 87)
		}
		s.put(fullKey(i*10+2), 87)
	}
}

func (s *thinning) thinOut() {
	for _, span := range [][2]int{{36, 80}, {84, 89}, {91, 97}, {109, 115}, {117, 161}, {207, 242}, {288, 323}} {
		s.gone(span[0], span[1])
	}
	for _, i := range []int{162, 243, 324, 369} {
		s.gone(i+3, i+8)
		s.gone(i+12, i+17)
		s.gone(i+21, i+44)
	}
	for _, i := range []int{98, 116} {
		s.put(shortKey(i*10), 62)
		s.put(fullKey(i*10+2), 62)
		s.put(fullKey(i*10+4), 87)
		s.put(fullKey(i*10+6), 40)
	}
}

func (s *thinning) thinOutMore() {
	s.gone(101, 107)
	s.delete(s.tx, fullKey(1162))
	s.delete(s.tx, fullKey(1164))
}

func (s *thinning) leaveLittle() {
	s.gone(99, 100)
	s.gone(162, 413)
	s.put(shortKey(980), 62)
	s.put(fullKey(982), 79)
	s.put(fullKey(984), 87)
	s.put(shortKey(985), 12)
	s.put(shortKey(991), 8)
	for _, i := range []int{162, 243, 324, 369} {
		s.put(shortKey(i*10+1), 8)
	}
}

// run makes sure of all four changes, each in a commit of its own.
func (s *thinning) run() {
	for _, change := range []func(){s.fill, s.thinOut, s.thinOutMore, s.leaveLittle} {
		s.tx = s.begin(true)
		change()
		s.commit(s.tx)
		s.wantSure()
	}
}

// TestThinner: P11 and P13, each commit of one store that gets thinner is done, and so it is near that one.
func TestThinner(t *testing.T) {
	for seed := range int64(40) {
		s := &thinning{trial: newTrial(t, seed, api.MaxPages)}
		if seed > 0 {
			s.vary, s.some = s.r, oneOf(s.r, 5, 10, 20, 50)
		}
		s.run()
		if s.told[api.OK] != 4 || t.Failed() {
			t.Fatalf("P11: seed %d: the commits told %v", seed, s.told)
		}
	}
}
