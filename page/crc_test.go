package page_test

import (
	"hash/crc32"
	"math/rand"
	"testing"

	"rowan/page"
)

func TestCrc32OfTheExample(t *testing.T) {
	if n := page.Crc32("123456789"); n != 0xcbf43926 {
		t.Errorf("P3: Crc32 = %#x, want 0xcbf43926", n)
	}
}

func TestCrc32OfNothing(t *testing.T) {
	if n := page.Crc32(""); n != 0 {
		t.Errorf("P3: Crc32 of the empty text = %#x, want 0", n)
	}
}

func TestCrc32OfEachByte(t *testing.T) {
	for i := range 256 {
		b := []byte{byte(i)}
		if n := page.Crc32(string(b)); n != int(crc32.ChecksumIEEE(b)) {
			t.Errorf("P3: Crc32 of byte %d = %#x", i, n)
		}
	}
}

func TestCrc32OfAnyText(t *testing.T) {
	r := rand.New(rand.NewSource(1))
	for range 500 {
		s := anyText(r, 600)
		n := page.Crc32(s)
		if n != int(crc32.ChecksumIEEE([]byte(s))) {
			t.Fatalf("P3: Crc32(%q) = %#x", s, n)
		}
		if n < 0 || n > 0xffffffff {
			t.Fatalf("P3: Crc32(%q) = %d, which has not 32 bits", s, n)
		}
	}
}
