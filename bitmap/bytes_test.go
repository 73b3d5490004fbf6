package bitmap

import (
	"encoding/binary"
	"testing"

	"platbook/api"
)

// P5.4

// bytesOf lays a row of bits as the chapter says.
func bytesOf(want []bool) string {
	list := binary.BigEndian.AppendUint32(nil, uint32(len(want)))
	for i, one := range want {
		if i%8 == 0 {
			list = append(list, 0)
		}
		if one {
			list[len(list)-1] |= 1 << (i % 8)
		}
	}
	return string(list)
}

// holdBytes holds a map's bytes, and answers the map of these bytes.
func holdBytes(t *testing.T, m *Map, want []bool) *Map {
	t.Helper()
	s := m.Bytes()
	if s != bytesOf(want) {
		t.Fatalf("of %d: Bytes() = %x, want %x", len(want), s, bytesOf(want))
	}
	again, e := OfBytes(s)
	if again == nil || e != api.OK {
		t.Fatalf("of %d: OfBytes(%x) = %v, %d", len(want), s, again, e)
	}
	return again
}

func TestBytes(t *testing.T) {
	tests := []struct {
		want []bool
		s    string
	}{
		{withOnes(0), "\x00\x00\x00\x00"},
		{withOnes(1), "\x00\x00\x00\x01\x00"},
		{withOnes(1, 0), "\x00\x00\x00\x01\x01"},
		{withOnes(3, 1), "\x00\x00\x00\x03\x02"},
		{withOnes(8, 0), "\x00\x00\x00\x08\x01"},
		{withOnes(8, 7), "\x00\x00\x00\x08\x80"},
		{withOnes(9, 0, 8), "\x00\x00\x00\x09\x01\x01"},
		{withOnes(10, 1, 3, 9), "\x00\x00\x00\x0a\x0a\x02"},
		{withOnes(64, 0, 15, 63), "\x00\x00\x00\x40\x01\x80\x00\x00\x00\x00\x00\x80"},
		{withOnes(65, 63, 64), "\x00\x00\x00\x41\x00\x00\x00\x00\x00\x00\x00\x80\x01"},
	}
	for _, c := range tests {
		if s := mapOf(c.want).Bytes(); s != c.s {
			t.Errorf("Bytes() = %x, want %x", s, c.s)
		}
		m, e := OfBytes(c.s)
		if e != api.OK {
			t.Fatalf("OfBytes(%x) = %v, %d", c.s, m, e)
		}
		hold(t, m, c.want)
	}
}

func TestBytesAndBack(t *testing.T) {
	for _, size := range someSizes() {
		for _, want := range someRows(size) {
			m := mapOf(want)
			again := holdBytes(t, m, want)
			hold(t, again, want)
			hold(t, m, want)
		}
	}
}

func TestTheMapOfBytesGoesItsOwnWay(t *testing.T) {
	for _, size := range smallSizes()[1:] {
		m := made(size)
		again := holdBytes(t, m, make([]bool, size))
		holdOwnWays(t, m, again)
	}
}

// holdOwnWays turns bits of two maps without ones: neither shows the other's.
func holdOwnWays(t *testing.T, m, other *Map) {
	t.Helper()
	size := m.Size()
	none, all := make([]bool, size), make([]bool, size)
	for i := range all {
		all[i] = true
	}
	other.Fill(0, size-1)
	hold(t, m, none)
	hold(t, other, all)
	other.Clear(0, size-1)
	m.Fill(0, size-1)
	hold(t, m, all)
	hold(t, other, none)
}

func TestCopy(t *testing.T) {
	for _, size := range someSizes() {
		for _, want := range someRows(size) {
			m := mapOf(want)
			other := m.Copy()
			if other == nil || other == m {
				t.Fatalf("of %d: Copy() = %p of %p", size, other, m)
			}
			hold(t, other, want)
			hold(t, m, want)
		}
	}
}

func TestCopiesGoTheirOwnWay(t *testing.T) {
	for _, size := range someSizes()[1:] {
		m := made(size)
		holdOwnWays(t, m, m.Copy())
		for _, i := range []int{0, size / 2, size - 1} {
			m = made(size)
			other, third := m.Copy(), m.Copy()
			if m.Put(i) != api.OK || other.Has(i) || other.Put(i) != api.OK || third.Has(i) {
				t.Errorf("of %d: bit %d of one is seen in another", size, i)
			}
			if m.Drop(i) != api.OK || !other.Has(i) || third.Drop(i) != api.ErrNone {
				t.Errorf("of %d: bit %d of one is seen in another", size, i)
			}
		}
	}
}

// OfBytes, wrong inputs

func holdNoMap(t *testing.T, s string) {
	t.Helper()
	if m, e := OfBytes(s); m != nil || e != api.ErrForm {
		if len(s) > 40 {
			s = s[:40]
		}
		t.Errorf("OfBytes(%x ..) = %v, %d", s, m, e)
	}
}

func TestBytesThatAreTooFewOrTooMany(t *testing.T) {
	for _, size := range someSizes() {
		for _, want := range someRows(size) {
			s := bytesOf(want)
			holdNoMap(t, s+"\x00")
			holdNoMap(t, s+"\x01")
			holdNoMap(t, s+"\x00\x00\x00\x00\x00\x00\x00\x00")
			holdNoMap(t, s[:len(s)-1])
			holdNoMap(t, s[:len(s)/2])
			if size < 200 {
				for n := range len(s) {
					holdNoMap(t, s[:n])
				}
			}
		}
	}
}

func TestBytesOfTooGreatASize(t *testing.T) {
	for _, size := range []uint32{65537, 65544, 65600, 1 << 17, 1 << 24, 1<<24 + 1, 1<<31 - 1, 1 << 31, 1<<31 + 8, 1<<32 - 1} {
		head := string(binary.BigEndian.AppendUint32(nil, size))
		holdNoMap(t, head)
		holdNoMap(t, head+"\x00")
		// As many bytes as so many bits would take, or as the size's low bits ask for.
		holdNoMap(t, head+string(make([]byte, size%65536/8)))
		holdNoMap(t, head+string(make([]byte, (size%65536+7)/8)))
		if size <= 1<<25 {
			holdNoMap(t, head+string(make([]byte, (size+7)/8)))
		}
	}
}

func TestBytesWithOnesBehindTheSize(t *testing.T) {
	for _, size := range someSizes() {
		for _, want := range someRows(size) {
			for behind := size % 8; behind != 0 && behind < 8; behind++ {
				list := []byte(bytesOf(want))
				list[len(list)-1] |= 1 << behind
				holdNoMap(t, string(list))
			}
		}
	}
}
