package sum

import (
	"hash/crc32"
	"math/bits"
	"math/rand/v2"
	"slices"
	"strings"
	"testing"
)

// P8.1

// divided reckons a sum on by the chapter's words, bit by bit: the remainder by
// the polynomial 0x1EDC6F41, each byte's lowest bit first.
func divided(sum uint32, s string) uint32 {
	rest := bits.Reverse32(^sum)
	for _, b := range []byte(s) {
		for i := range 8 {
			goesOver := rest>>31^uint32(b>>i)&1 == 1
			rest <<= 1
			if goesOver {
				rest ^= 0x1EDC6F41
			}
		}
	}
	return ^bits.Reverse32(rest)
}

// library is the sum by Go's own library.
func library(sum uint32, s string) uint32 {
	return crc32.Update(sum, crc32.MakeTable(crc32.Castagnoli), []byte(s))
}

// shown is a text, or its ends, if it is a long one.
func shown(s string) string {
	if len(s) <= 40 {
		return s
	}
	return s[:20] + ".." + s[len(s)-20:]
}

func holdOn(t *testing.T, sum uint32, s string) {
	t.Helper()
	want := divided(sum, s)
	if other := library(sum, s); other != want {
		t.Fatalf("two ways to reckon: %08x, %08x", want, other)
	}
	if got := On(sum, s); got != want {
		t.Fatalf("On(%08x, %q of %d) = %08x, want %08x", sum, shown(s), len(s), got, want)
	}
}

func holdOf(t *testing.T, s string) {
	t.Helper()
	if got, want := Of(s), divided(0, s); got != want {
		t.Fatalf("Of(%q of %d) = %08x, want %08x", shown(s), len(s), got, want)
	}
	holdOn(t, 0, s)
}

// rising is so many bytes, each one greater than that ahead of it by a step.
func rising(size, first, step int) string {
	list := make([]byte, size)
	for i := range list {
		list[i] = byte(first + i*step)
	}
	return string(list)
}

func drawn(r *rand.Rand, size int) string {
	list := make([]byte, size)
	for i := range list {
		list[i] = byte(r.Uint32())
	}
	return string(list)
}

func newRand() *rand.Rand {
	return rand.New(rand.NewPCG(8, 1))
}

// ofSize is texts of a size, of bytes of all kinds.
func ofSize(r *rand.Rand, size int) []string {
	return []string{
		strings.Repeat("\x00", size),
		strings.Repeat("\xff", size),
		strings.Repeat("\x80", size),
		strings.Repeat("a", size),
		strings.Repeat("\u00e9\u20ac\U0001F600", size)[:size],
		rising(size, 0, 1),
		rising(size, 255, -1),
		drawn(r, size),
	}
}

// someSums are those at the ends, of one bit and of all but one, and others.
func someSums(r *rand.Rand) []uint32 {
	list := []uint32{0, 1, 0xFFFFFFFF, 0xFFFFFFFE, 0x01020304, 0x82F63B78, 0x1EDC6F41, 0xE3069283, 0xDEADBEEF}
	for i := range 32 {
		list = append(list, 1<<i, ^uint32(1<<i), r.Uint32())
	}
	return list
}

func TestSumsThatAreKnown(t *testing.T) {
	tests := []struct {
		s    string
		want uint32
	}{
		{"123456789", 0xE3069283},
		{"", 0},
		{"a", 0xC1D04330},
		{"\x00", 0x527D5351},
		{"\xff", 0xFF000000},
		{strings.Repeat("\x00", 32), 0x8A9136AA}, // this one, and those behind it, as iSCSI's own examples have them
		{strings.Repeat("\xff", 32), 0x62A8AB43},
		{rising(32, 0, 1), 0x46DD794E},
		{rising(32, 31, -1), 0x113FDB5C},
		{"\x01\xc0\x00\x00\x00\x00\x00\x00\x00\x00\x00\x00\x00\x00\x00\x00\x14\x00\x00\x00\x00\x00\x04\x00\x00\x00\x00\x14\x00\x00\x00\x18\x28\x00\x00\x00\x00\x00\x00\x00\x02\x00\x00\x00\x00\x00\x00\x00", 0xD9963A56},
	}
	for _, c := range tests {
		if got := Of(c.s); got != c.want {
			t.Errorf("Of(%q) = %08x, want %08x", c.s, got, c.want)
		}
		if got := On(0, c.s); got != c.want {
			t.Errorf("On(0, %q) = %08x, want %08x", c.s, got, c.want)
		}
	}
}

func TestOfOneByte(t *testing.T) {
	var sums []uint32
	for b := range 256 {
		s := string([]byte{byte(b)})
		holdOf(t, s)
		sums = append(sums, Of(s))
	}
	slices.Sort(sums)
	if unlike := len(slices.Compact(sums)); unlike != 256 {
		t.Errorf("one byte each: %d sums", unlike)
	}
}

func TestOfTwoBytes(t *testing.T) {
	for b := range 1 << 16 {
		holdOf(t, string([]byte{byte(b), byte(b >> 8)}))
	}
}

func TestOfAllSizes(t *testing.T) {
	r := newRand()
	for size := range 300 {
		for _, s := range ofSize(r, size) {
			holdOf(t, s)
		}
	}
}

func TestOfLongTexts(t *testing.T) {
	r := newRand()
	for _, size := range []int{4095, 4096, 4097, 65535, 65536, 65537, 1<<20 - 1, 1 << 20, 1<<20 + 1} {
		s := drawn(r, size)
		holdOf(t, s)
		holdOn(t, 0xDEADBEEF, s)
	}
	for _, s := range ofSize(r, 1<<18) {
		holdOf(t, s)
	}
}

func TestOfBytesAbove127(t *testing.T) {
	for _, s := range []string{
		"\u00e9", "e\u0301", "\u20ac", "\U0001F600", "\ufffd", "\ufeff",
		"\x80", "\xbf", "\xc0", "\xc3", "\xfe", "\xff", "\xc3\x28", "\xe2\x82", "\xed\xa0\x80", "\xf4\x90\x80\x80",
		"name\xff", "\xffname", "na\xffme", "\u00e9\xff\u00e9",
	} {
		holdOf(t, s)
		holdOn(t, 0x01020304, s)
	}
	if Of("\ufffd") == Of("\xff") {
		t.Error("a byte that is no text, and the rune in its place, have one sum")
	}
}

func TestOnFromOtherSums(t *testing.T) {
	r := newRand()
	for _, sum := range someSums(r) {
		for b := range 256 {
			holdOn(t, sum, string([]byte{byte(b)}))
		}
		for _, size := range []int{0, 1, 2, 3, 4, 5, 7, 8, 9, 31, 100} {
			for _, s := range ofSize(r, size) {
				holdOn(t, sum, s)
			}
		}
	}
}

func TestOnWithNothingBehind(t *testing.T) {
	for _, sum := range someSums(newRand()) {
		if got := On(sum, ""); got != sum {
			t.Errorf("On(%08x, nothing) = %08x", sum, got)
		}
	}
}

// Four bytes come to each sum there is: what is behind them goes on from it.
func TestOnGoesOnFromBytesOfASum(t *testing.T) {
	r := newRand()
	for range 2000 {
		ahead, s := drawn(r, 4), drawn(r, r.IntN(20))
		if got, want := On(Of(ahead), s), Of(ahead+s); got != want {
			t.Fatalf("On(Of(%q), %q) = %08x, want %08x", ahead, s, got, want)
		}
	}
}

func TestSumsHangOnTheirArgumentsAlone(t *testing.T) {
	first := Of("123456789")
	for _, s := range []string{"", "\xff", "other", "123456789"} {
		Of(s)
		On(0xDEADBEEF, s)
		if again := Of("123456789"); again != first {
			t.Errorf("behind %q: %08x, ahead of it %08x", s, again, first)
		}
	}
}
