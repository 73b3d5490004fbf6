package sum

import (
	"encoding/binary"
	"math/bits"
	"math/rand/v2"
	"testing"
)

// P8.3

func TestCutAnywhere(t *testing.T) {
	r := newRand()
	for _, size := range []int{0, 1, 2, 3, 4, 5, 8, 9, 16, 100, 257} {
		for _, s := range append(ofSize(r, size), "123456789") {
			want := Of(s)
			for cut := range len(s) + 1 {
				if got := On(On(0, s[:cut]), s[cut:]); got != want {
					t.Fatalf("%q of %d, cut at %d: %08x, want %08x", shown(s), len(s), cut, got, want)
				}
				if got := On(Of(s[:cut]), s[cut:]); got != want {
					t.Fatalf("%q of %d, from Of at %d: %08x, want %08x", shown(s), len(s), cut, got, want)
				}
			}
		}
	}
}

func TestCutTwiceAnywhere(t *testing.T) {
	r := newRand()
	for _, s := range ofSize(r, 24) {
		for first := range len(s) + 1 {
			for second := first; second <= len(s); second++ {
				got := On(On(Of(s[:first]), s[first:second]), s[second:])
				if want := Of(s); got != want {
					t.Fatalf("%q, cut at %d and %d: %08x, want %08x", s, first, second, got, want)
				}
			}
		}
	}
}

func TestByteByByte(t *testing.T) {
	r := newRand()
	for _, from := range []uint32{0, 1, 0xDEADBEEF, 0xFFFFFFFF} {
		s := drawn(r, 5000)
		sum := from
		for i := range len(s) {
			sum = On(sum, s[i:i+1])
			if i%500 == 0 && sum != divided(from, s[:i+1]) {
				t.Fatalf("from %08x, byte %d: %08x", from, i, sum)
			}
		}
		if want := On(from, s); sum != want {
			t.Errorf("from %08x, byte by byte: %08x, want %08x", from, sum, want)
		}
	}
}

// turned is a text whose bytes from a place on are others: as many as has is
// long, by the bits of these.
func turned(s string, at int, has string) string {
	list := []byte(s)
	for i := range len(has) {
		list[at+i] ^= has[i]
	}
	return string(list)
}

func holdUnlike(t *testing.T, s string, at int, has string) {
	t.Helper()
	other := turned(s, at, has)
	if Of(s) == Of(other) {
		t.Fatalf("%q of %d, from %d on by %x: one sum %08x", shown(s), len(s), at, has, Of(s))
	}
}

func someTexts(r *rand.Rand) []string {
	var list []string
	for _, size := range []int{1, 2, 3, 4, 5, 8, 21} {
		list = append(list, ofSize(r, size)...)
	}
	return list
}

func TestUnlikeByOneByte(t *testing.T) {
	for _, s := range someTexts(newRand()) {
		for at := range len(s) {
			for b := 1; b < 256; b++ {
				holdUnlike(t, s, at, string([]byte{byte(b)}))
			}
		}
	}
}

func TestUnlikeByTwoBytes(t *testing.T) {
	for _, s := range []string{"\x00\x00", "123456789"} {
		for at := range len(s) - 1 {
			for b := 1; b < 1<<16; b++ {
				holdUnlike(t, s, at, string([]byte{byte(b), byte(b >> 8)}))
			}
		}
	}
}

func TestUnlikeByFewBytes(t *testing.T) {
	r := newRand()
	for _, s := range append(someTexts(r), drawn(r, 1000), drawn(r, 5000)) {
		for range 300 {
			count := 1 + r.IntN(min(4, len(s)))
			at := r.IntN(len(s) - count + 1)
			has := drawn(r, count)
			if turned(s, at, has) != s {
				holdUnlike(t, s, at, has)
			}
		}
	}
}

// The polynomial's bits, in both orders, are what sums that lose a bit take for
// nothing.
func TestUnlikeByThePolynomial(t *testing.T) {
	r := newRand()
	for _, s := range someTexts(r) {
		for at := 0; at+4 <= len(s); at++ {
			for _, has := range []uint32{0x82F63B78, 0x1EDC6F41, 0x05EC76F1, 0x8F6E37A0, 0xFFFFFFFF, 0x80000001, 1, 1 << 31} {
				holdUnlike(t, s, at, Lay(has))
				holdUnlike(t, s, at, string(binary.BigEndian.AppendUint32(nil, has)))
			}
		}
	}
}

// How sums differ hangs on how the texts differ alone, and what two ways to
// differ come to together is both, one against the other: so no way to differ
// by four bytes comes to nothing, if none of their 32 bits is made by others.
func TestUnlikeByAnyFourBytes(t *testing.T) {
	r := newRand()
	for _, size := range []int{4, 5, 9, 64, 1000} {
		s := drawn(r, size)
		for _, at := range []int{0, (size - 4) / 2, size - 4} {
			if n := independent(bitsTurned(s, at)); n != 32 {
				t.Errorf("of %d, from %d on: %d bits of 32 stand for themselves", size, at, n)
			}
		}
	}
}

// bitsTurned is by what a text's sum differs, each of 32 bits turned alone.
func bitsTurned(s string, at int) []uint32 {
	var list []uint32
	for i := range 32 {
		list = append(list, Of(s)^Of(turned(s, at, Lay(1<<i))))
	}
	return list
}

// independent is how many of a list aren't made of others of it.
func independent(list []uint32) int {
	led := map[int]uint32{} // by its highest bit
	for _, n := range list {
		for n != 0 {
			highest := bits.Len32(n)
			if led[highest] == 0 {
				led[highest] = n
				break
			}
			n ^= led[highest]
		}
	}
	return len(led)
}

func TestWaysToDifferComeTogether(t *testing.T) {
	r := newRand()
	for range 2000 {
		size := 4 + r.IntN(60)
		s, at := drawn(r, size), r.IntN(size-3)
		one, two := r.Uint32(), r.Uint32()
		by := func(has uint32) uint32 { return Of(s) ^ Of(turned(s, at, Lay(has))) }
		if by(one)^by(two) != by(one^two) {
			t.Fatalf("%q from %d on: %08x and %08x", s, at, one, two)
		}
		zeros := string(make([]byte, size))
		if other := Of(zeros) ^ Of(turned(zeros, at, Lay(one))); other != by(one) {
			t.Fatalf("%q from %d on: by %08x it differs otherwise than noughts", s, at, one)
		}
	}
}
