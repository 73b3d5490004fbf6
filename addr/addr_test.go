package addr

import (
	"cmp"
	"encoding/binary"
	"math"
	"strings"
	"testing"

	"platbook/api"
	"platbook/num"
)

const top = math.MaxUint64

var (
	firstShort = V4(0)
	lastShort  = V4(math.MaxUint32)
	firstLong  = V6(0, 0)
	lastLong   = V6(top, top)
)

// words are some of 64 bits: edges, and those of no pattern, the same ones each
// time.
func words() []uint64 {
	list := []uint64{0, 1, 2, 255, 256, 0xffff, 0x10000, 1<<32 - 1, 1 << 32, 1<<63 - 1, 1 << 63, top - 1, top}
	state := uint64(7)
	for range 12 {
		state = state*6364136223846793005 + 1442695040888963407
		list = append(list, state)
	}
	return list
}

// wrongAddrs may not be.
func wrongAddrs() []api.Addr {
	return []api.Addr{
		{N: api.Num{Lo: 1 << 32}},
		{N: api.Num{Lo: 1<<32 + 5}},
		{N: api.Num{Lo: top}},
		{N: api.Num{Hi: 1}},
		{N: api.Num{Hi: 1, Lo: 5}},
		{N: api.Num{Hi: top, Lo: top}},
	}
}

func shortAddrs() []api.Addr {
	var list []api.Addr
	for _, word := range words() {
		list = append(list, V4(uint32(word)), V4(uint32(word>>32)))
	}
	return list
}

func longAddrs() []api.Addr {
	var list []api.Addr
	for _, hi := range words() {
		for _, lo := range words() {
			list = append(list, V6(hi, lo))
		}
	}
	return list
}

// sparseAddrs are long ones with noughts in the groups of each of the 256 sets.
func sparseAddrs() []api.Addr {
	var list []api.Addr
	for set := range 256 {
		var bytes [16]byte
		for group := range 8 {
			if set>>group&1 == 1 {
				binary.BigEndian.PutUint16(bytes[2*group:], uint16(0x0a00>>group+group+1))
			}
		}
		list = append(list, V6(binary.BigEndian.Uint64(bytes[:8]), binary.BigEndian.Uint64(bytes[8:])))
	}
	return list
}

func rightAddrs() []api.Addr {
	list := append(shortAddrs(), longAddrs()...)
	return append(list, sparseAddrs()...)
}

// P2.1

func TestRight(t *testing.T) {
	for _, a := range rightAddrs() {
		if !Right(a) {
			t.Errorf("Right(%v) is false", a)
		}
	}
	for _, a := range wrongAddrs() {
		if Right(a) {
			t.Errorf("Right(%v) is true", a)
		}
		a.V6 = true
		if !Right(a) {
			t.Errorf("Right(%v) is false", a)
		}
	}
}

func TestV4AndV6(t *testing.T) {
	for _, hi := range words() {
		if got, want := V4(uint32(hi)), (api.Addr{N: api.Num{Lo: hi & math.MaxUint32}}); got != want {
			t.Errorf("V4(%d) = %v", uint32(hi), got)
		}
		for _, lo := range words() {
			if got, want := V6(hi, lo), (api.Addr{V6: true, N: api.Num{Hi: hi, Lo: lo}}); got != want {
				t.Errorf("V6(%d, %d) = %v", hi, lo, got)
			}
		}
	}
}

func TestWidth(t *testing.T) {
	for _, a := range append(rightAddrs(), wrongAddrs()...) {
		want := 32
		if a.V6 {
			want = 128
		}
		if got := Width(a); got != want {
			t.Errorf("Width(%v) = %d", a, got)
		}
	}
}

func TestCmp(t *testing.T) {
	inOrder := []api.Addr{
		firstShort, V4(1), V4(0x7fffffff), V4(0x80000000), lastShort,
		// Those that may not be have their place by the same words.
		{N: api.Num{Lo: 1 << 32}}, {N: api.Num{Lo: top}}, {N: api.Num{Hi: 1}}, {N: api.Num{Hi: top, Lo: top}},
		firstLong, V6(0, 1), V6(0, top), V6(1, 0), V6(1, 9), V6(2, 0), V6(1<<63-1, top), V6(1<<63, 0), V6(top, 0), lastLong,
	}
	for i, a := range inOrder {
		for j, b := range inOrder {
			if got, want := Cmp(a, b), cmp.Compare(i, j); got != want {
				t.Errorf("Cmp(%v, %v) = %d, want %d", a, b, got, want)
			}
		}
	}
}

// P2.2

func TestPlus(t *testing.T) {
	tests := []struct {
		a, want api.Addr
		n       api.Num
	}{
		{V4(0x0a000000), V4(0x0a000005), num.Of(5)},
		{V4(0x010203ff), V4(0x01020400), num.Of(1)},
		{firstShort, firstShort, num.Of(0)},
		{lastShort, lastShort, num.Of(0)},
		{firstShort, lastShort, num.Of(math.MaxUint32)},
		{V4(math.MaxUint32 - 1), lastShort, num.Of(1)},
		{V6(1, top), V6(2, 0), num.Of(1)},
		{V6(1, 2), V6(4, 6), api.Num{Hi: 3, Lo: 4}},
		{V6(0, math.MaxUint32), V6(0, 1<<32), num.Of(1)},
		{firstLong, firstLong, num.Of(0)},
		{lastLong, lastLong, num.Of(0)},
		{firstLong, lastLong, api.Num{Hi: top, Lo: top}},
		{V6(top, top-1), lastLong, num.Of(1)},
	}
	for _, c := range tests {
		if got, e := Plus(c.a, c.n); got != c.want || e != api.OK {
			t.Errorf("Plus(%v, %v) = %v, %d", c.a, c.n, got, e)
		}
	}
}

func TestPlusBeyondTheLast(t *testing.T) {
	tests := []struct {
		a api.Addr
		n api.Num
	}{
		{lastShort, num.Of(1)},
		{firstShort, num.Of(1 << 32)},
		{V4(1), num.Of(math.MaxUint32)},
		{V4(5), num.Of(top)},
		{V4(5), api.Num{Hi: 1}},
		// Modulo 2^128 these come to 4, to 0 and to the last of all: none is true.
		{V4(5), api.Num{Hi: top, Lo: top}},
		{V4(1), api.Num{Hi: top, Lo: top}},
		{lastShort, api.Num{Hi: top, Lo: top}},
		{lastLong, num.Of(1)},
		{lastLong, api.Num{Hi: top, Lo: top}},
		{V6(0, 1), api.Num{Hi: top, Lo: top}},
		{V6(1<<63, 0), api.Num{Hi: 1 << 63}},
	}
	for _, c := range tests {
		if got, e := Plus(c.a, c.n); got != (api.Addr{}) || e != api.ErrOver {
			t.Errorf("Plus(%v, %v) = %v, %d", c.a, c.n, got, e)
		}
	}
}

func TestPlusOfWhatMayNotBe(t *testing.T) {
	for _, a := range wrongAddrs() {
		// With all ones the sum would also be beyond the last, but ErrArg is told first.
		for _, n := range []api.Num{{}, num.Of(1), {Hi: top, Lo: top}} {
			if got, e := Plus(a, n); got != (api.Addr{}) || e != api.ErrArg {
				t.Errorf("Plus(%v, %v) = %v, %d", a, n, got, e)
			}
		}
	}
}

func TestMinus(t *testing.T) {
	tests := []struct {
		a, b api.Addr
		want api.Num
	}{
		{V4(9), V4(4), num.Of(5)},
		{V4(0x01020400), V4(0x010203ff), num.Of(1)},
		{lastShort, lastShort, num.Of(0)},
		{lastShort, firstShort, num.Of(math.MaxUint32)},
		{V6(2, 0), V6(1, top), num.Of(1)},
		{V6(4, 6), V6(3, 4), api.Num{Hi: 1, Lo: 2}},
		{firstLong, firstLong, num.Of(0)},
		{lastLong, firstLong, api.Num{Hi: top, Lo: top}},
	}
	for _, c := range tests {
		if got, e := Minus(c.a, c.b); got != c.want || e != api.OK {
			t.Errorf("Minus(%v, %v) = %v, %d", c.a, c.b, got, e)
		}
	}
}

func TestMinusOfOneAhead(t *testing.T) {
	tests := []struct{ a, b api.Addr }{
		{V4(4), V4(5)},
		{firstShort, V4(1)},
		{firstShort, lastShort},
		{V6(0, 4), V6(0, 5)},
		{V6(0, top), V6(1, 0)},
		{firstLong, lastLong},
	}
	for _, c := range tests {
		if got, e := Minus(c.a, c.b); got != (api.Num{}) || e != api.ErrOver {
			t.Errorf("Minus(%v, %v) = %v, %d", c.a, c.b, got, e)
		}
	}
}

func TestMinusOfTwoFamilies(t *testing.T) {
	for _, short := range shortAddrs() {
		for _, long := range sparseAddrs() {
			if got, e := Minus(short, long); got != (api.Num{}) || e != api.ErrArg {
				t.Fatalf("Minus(%v, %v) = %v, %d", short, long, got, e)
			}
			if got, e := Minus(long, short); got != (api.Num{}) || e != api.ErrArg {
				t.Fatalf("Minus(%v, %v) = %v, %d", long, short, got, e)
			}
		}
	}
}

func TestMinusOfWhatMayNotBe(t *testing.T) {
	for _, wrong := range wrongAddrs() {
		for _, other := range []api.Addr{firstShort, lastShort, firstLong, lastLong, wrong} {
			if got, e := Minus(wrong, other); got != (api.Num{}) || e != api.ErrArg {
				t.Errorf("Minus(%v, %v) = %v, %d", wrong, other, got, e)
			}
			if got, e := Minus(other, wrong); got != (api.Num{}) || e != api.ErrArg {
				t.Errorf("Minus(%v, %v) = %v, %d", other, wrong, got, e)
			}
		}
	}
}

func TestPlusIsMinusBack(t *testing.T) {
	for _, a := range rightAddrs() {
		for _, lo := range words() {
			n := num.Of(lo)
			behind, e := Plus(a, n)
			if e == api.ErrOver {
				continue
			}
			if back, e := Minus(behind, a); back != n || e != api.OK || behind.V6 != a.V6 {
				t.Fatalf("%v and %v: %v, %v, %d", a, n, behind, back, e)
			}
		}
	}
}

// P2.3

// wantBytes are a's, laid by the library.
func wantBytes(a api.Addr) string {
	if !a.V6 {
		return string(binary.BigEndian.AppendUint32(nil, uint32(a.N.Lo)))
	}
	return string(binary.BigEndian.AppendUint64(binary.BigEndian.AppendUint64(nil, a.N.Hi), a.N.Lo))
}

func TestBytesAndBack(t *testing.T) {
	for _, a := range rightAddrs() {
		bytes := Bytes(a)
		if bytes != wantBytes(a) {
			t.Errorf("Bytes(%v) = %x", a, bytes)
		}
		if back, e := OfBytes(bytes); back != a || e != api.OK {
			t.Errorf("OfBytes(%x) = %v, %d", bytes, back, e)
		}
	}
}

func TestBytesAtTheEdges(t *testing.T) {
	tests := []struct {
		a    api.Addr
		want string
	}{
		{firstShort, "\x00\x00\x00\x00"},
		{V4(0x01020304), "\x01\x02\x03\x04"},
		{lastShort, "\xff\xff\xff\xff"},
		{firstLong, strings.Repeat("\x00", 16)},
		{V6(0x0102030405060708, 0x090a0b0c0d0e0f10), "\x01\x02\x03\x04\x05\x06\x07\x08\x09\x0a\x0b\x0c\x0d\x0e\x0f\x10"},
		{lastLong, strings.Repeat("\xff", 16)},
	}
	for _, c := range tests {
		if got := Bytes(c.a); got != c.want {
			t.Errorf("Bytes(%v) = %x", c.a, got)
		}
		if got, e := OfBytes(c.want); got != c.a || e != api.OK {
			t.Errorf("OfBytes(%x) = %v, %d", c.want, got, e)
		}
	}
}

func TestBytesOfWhatMayNotBe(t *testing.T) {
	for _, a := range wrongAddrs() {
		if got := Bytes(a); got != "" {
			t.Errorf("Bytes(%v) = %x", a, got)
		}
	}
}

func TestOfBytesOfAnotherLength(t *testing.T) {
	for length := range 40 {
		if length == 4 || length == 16 {
			continue
		}
		for _, one := range []string{"\x00", "\x01", "\xff"} {
			if got, e := OfBytes(strings.Repeat(one, length)); got != (api.Addr{}) || e != api.ErrForm {
				t.Errorf("OfBytes of %d bytes %x = %v, %d", length, one, got, e)
			}
		}
	}
}
