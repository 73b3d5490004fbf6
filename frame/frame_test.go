package frame

import (
	"encoding/binary"
	"hash/crc32"
	"math/rand/v2"
	"strings"
	"testing"

	"platbook/api"
)

// four is a number's four bytes, the lowest first, by Go's own library.
func four(n uint32) string {
	return string(binary.LittleEndian.AppendUint32(nil, n))
}

// summed is the sum of a text, laid, by Go's own library.
func summed(s string) string {
	return four(crc32.Checksum([]byte(s), crc32.MakeTable(crc32.Castagnoli)))
}

// told is a frame that says of a record that it has so many bytes, with the sum
// of both.
func told(count uint32, record string) string {
	return four(count) + summed(four(count)+record) + record
}

// laid is a record's frame by the chapter's words.
func laid(record string) string {
	return told(uint32(len(record)), record)
}

func laidAll(records []string) string {
	s := ""
	for _, record := range records {
		s += laid(record)
	}
	return s
}

// shown is a text, or its ends, if it is a long one.
func shown(s string) string {
	if len(s) <= 60 {
		return s
	}
	return s[:30] + ".." + s[len(s)-30:]
}

func drawn(r *rand.Rand, size int) string {
	list := make([]byte, size)
	for i := range list {
		list[i] = byte(r.Uint32())
	}
	return string(list)
}

func newRand() *rand.Rand {
	return rand.New(rand.NewPCG(10, 1))
}

// someRecords are of all kinds: none is too long.
func someRecords(r *rand.Rand) []string {
	list := []string{
		"", "x", "\x00", "\xff", "abc", "h\u00e9llo \U0001F600", "\xc3\x28",
		laid(""), laid("x"), laid("x") + laid("y"), laid("abc")[:10], strings.Repeat("\x00", 8), strings.Repeat("\x00", 9),
	}
	for _, size := range []int{2, 3, 4, 5, 7, 8, 9, 100, 254, 255, 256, 257, 511, 512, 513, 1000, 4096, 65279, 65280, 65534, 65535, MaxBody} {
		list = append(list, drawn(r, size), strings.Repeat("\x00", size), strings.Repeat("\xff", size))
	}
	return list
}

// tooLong are texts that are no records.
func tooLong(r *rand.Rand) []string {
	return []string{
		strings.Repeat("x", MaxBody+1), drawn(r, MaxBody+1), strings.Repeat("\x00", MaxBody+2), drawn(r, MaxBody+255),
		drawn(r, MaxBody+256), drawn(r, 2*MaxBody), drawn(r, 2*MaxBody+1), strings.Repeat("y", 1<<24), strings.Repeat("z", 1<<24+5),
	}
}

func TestMostOfARecord(t *testing.T) {
	if MaxBody != 65536 {
		t.Error(MaxBody)
	}
}

// P10.1

func TestFrameOfNothing(t *testing.T) {
	s, e := Of("")
	if s != "\x00\x00\x00\x00"+summed("\x00\x00\x00\x00") || e != api.OK {
		t.Errorf("%x, %d", s, e)
	}
	if s != "\x00\x00\x00\x00\xc7\x4b\x67\x48" {
		t.Errorf("%x", s)
	}
}

// A frame's length, its sum and its record, each where the chapter lays it.
func TestPlacesInAFrame(t *testing.T) {
	for _, c := range []struct{ record, head string }{
		{"x", "\x01\x00\x00\x00"},
		{"123456789", "\x09\x00\x00\x00"},
		{strings.Repeat("a", 255), "\xff\x00\x00\x00"},
		{strings.Repeat("a", 256), "\x00\x01\x00\x00"},
		{strings.Repeat("a", 0x0102), "\x02\x01\x00\x00"},
		{strings.Repeat("a", 65535), "\xff\xff\x00\x00"},
		{strings.Repeat("a", 65536), "\x00\x00\x01\x00"},
	} {
		s, e := Of(c.record)
		if e != api.OK || len(s) != 8+len(c.record) {
			t.Errorf("%q of %d: %d bytes, %d", shown(c.record), len(c.record), len(s), e)
			continue
		}
		if s[:4] != c.head {
			t.Errorf("%q of %d: the length %x, want %x", shown(c.record), len(c.record), s[:4], c.head)
		}
		if want := summed(c.head + c.record); s[4:8] != want {
			t.Errorf("%q of %d: the sum %x, want %x", shown(c.record), len(c.record), s[4:8], want)
		}
		if s[8:] != c.record {
			t.Errorf("%q of %d: the record %q", shown(c.record), len(c.record), shown(s[8:]))
		}
	}
}

func holdOf(t *testing.T, record string) {
	t.Helper()
	want := laid(record)
	if s, e := Of(record); s != want || e != api.OK {
		t.Fatalf("Of(%q of %d) = %q of %d, %d", shown(record), len(record), shown(s), len(s), e)
	}
	if size := Size(record); size != len(want) {
		t.Fatalf("Size(%q of %d) = %d, want %d", shown(record), len(record), size, len(want))
	}
}

func TestOfAllKinds(t *testing.T) {
	r := newRand()
	for _, record := range someRecords(r) {
		holdOf(t, record)
	}
	for size := range 700 {
		holdOf(t, drawn(r, size))
	}
	for b := range 256 {
		holdOf(t, string([]byte{byte(b)}))
	}
}

func TestOfOneTooLong(t *testing.T) {
	r := newRand()
	for _, s := range tooLong(r) {
		if laid, e := Of(s); laid != "" || e != api.ErrLong {
			t.Errorf("Of(%d bytes) = %q of %d, %d", len(s), shown(laid), len(laid), e)
		}
	}
}

func TestSizeOfOneTooLong(t *testing.T) {
	r := newRand()
	for _, s := range tooLong(r) {
		if size := Size(s); size != len(s)+8 {
			t.Errorf("Size(%d bytes) = %d", len(s), size)
		}
	}
}

func TestSizes(t *testing.T) {
	for _, c := range []struct{ count, size int }{
		{0, 8}, {1, 9}, {255, 263}, {256, 264}, {600, 608}, {65535, 65543}, {65536, 65544}, {65537, 65545}, {100000, 100008},
	} {
		if size := Size(strings.Repeat("x", c.count)); size != c.size {
			t.Errorf("Size(%d bytes) = %d, want %d", c.count, size, c.size)
		}
	}
}
