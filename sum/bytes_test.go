package sum

import (
	"encoding/binary"
	"strings"
	"testing"

	"platbook/api"
)

// P8.2

func TestLayAndRead(t *testing.T) {
	for _, c := range []struct {
		sum uint32
		s   string
	}{
		{0, "\x00\x00\x00\x00"},
		{0xFFFFFFFF, "\xff\xff\xff\xff"},
		{0x01020304, "\x04\x03\x02\x01"},
		{0xF1E2D3C4, "\xc4\xd3\xe2\xf1"},
		{0x807F00FF, "\xff\x00\x7f\x80"},
		{0x00000001, "\x01\x00\x00\x00"},
		{0x80000000, "\x00\x00\x00\x80"},
		{0x33323130, "0123"},
		{0xA9C3A9C3, "\u00e9\u00e9"},
		{Of(strings.Repeat("\x00", 32)), "\xaa\x36\x91\x8a"}, // as iSCSI's own examples have its bytes
		{Of(strings.Repeat("\xff", 32)), "\x43\xab\xa8\x62"},
		{Of("123456789"), "\x83\x92\x06\xe3"},
	} {
		if s := Lay(c.sum); s != c.s {
			t.Errorf("Lay(%08x) = %x, want %x", c.sum, s, c.s)
		}
		if sum, e := Read(c.s); sum != c.sum || e != api.OK {
			t.Errorf("Read(%x) = %08x, %d, want %08x", c.s, sum, e, c.sum)
		}
	}
}

// holdBytes holds a sum's bytes, and the sum of these.
func holdBytes(t *testing.T, sum uint32) {
	t.Helper()
	want := string(binary.LittleEndian.AppendUint32(nil, sum))
	if s := Lay(sum); s != want {
		t.Fatalf("Lay(%08x) = %x, want %x", sum, s, want)
	}
	if again, e := Read(want); again != sum || e != api.OK {
		t.Fatalf("Read(%x) = %08x, %d, want %08x", want, again, e, sum)
	}
}

func TestLayAndReadOfAllKinds(t *testing.T) {
	r := newRand()
	for _, sum := range someSums(r) {
		holdBytes(t, sum)
	}
	for i := range 4 {
		for b := range uint32(256) {
			holdBytes(t, b<<(8*i))
			holdBytes(t, ^(b << (8 * i)))
			holdBytes(t, Of(string([]byte{byte(b), byte(i)})))
		}
	}
	for range 10000 {
		holdBytes(t, r.Uint32())
	}
}

func TestReadOfOtherSizes(t *testing.T) {
	r := newRand()
	list := []string{"abc", "abcde", Lay(0x01020304)[:3], Lay(0x01020304)[1:], Lay(0x01020304) + "\x00", "\x00" + Lay(0x01020304), Lay(1) + Lay(2), "\u00e9\u00e9\u00e9\u00e9", "\U0001F600\U0001F600"}
	for size := range 300 {
		if size != 4 {
			list = append(list, ofSize(r, size)...)
		}
	}
	list = append(list, drawn(r, 260), drawn(r, 65540), drawn(r, 1<<20+4))
	for _, s := range list {
		if sum, e := Read(s); sum != 0 || e != api.ErrForm {
			t.Errorf("Read(%q of %d) = %08x, %d, want 0, %d", shown(s), len(s), sum, e, api.ErrForm)
		}
	}
}

func TestReadOfNothing(t *testing.T) {
	if sum, e := Read(""); sum != 0 || e != api.ErrForm {
		t.Errorf("Read(nothing) = %08x, %d", sum, e)
	}
}
