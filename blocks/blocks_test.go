package blocks

import (
	"math"
	"slices"
	"testing"

	"platbook/api"
)

// A nil set, all promises.

func TestNilSet(t *testing.T) {
	var s *Set
	if s.Prefix() != (api.Prefix{}) || s.Bits() != 0 || s.Size() != 0 || s.Left() != 0 || len(s.Used()) != 0 || s.Copy() != nil {
		t.Error(s.Prefix(), s.Bits(), s.Size(), s.Left(), s.Used(), s.Copy())
	}
	if p, e := s.Next(); p != (api.Prefix{}) || e != api.ErrNil {
		t.Errorf("Next() = %v, %d", p, e)
	}
	for _, q := range append(wrongPrefixes(), api.Prefix{}, told("10.0.0.0/8"), told("::/0"), told("fd00::1/128")) {
		if n, e := s.Occupy(q); n != 0 || e != api.ErrNil {
			t.Errorf("Occupy(%v) = %d, %d", q, n, e)
		}
		if n, e := s.Release(q); n != 0 || e != api.ErrNil {
			t.Errorf("Release(%v) = %d, %d", q, n, e)
		}
		if s.Has(q) {
			t.Errorf("has %v", q)
		}
	}
}

// P7.1

func TestNew(t *testing.T) {
	for _, k := range kinds() {
		s, e := New(told(k.text), k.bits)
		if s == nil || e != api.OK {
			t.Fatalf("New(%s, %d) = %v, %d", k.text, k.bits, s, e)
		}
		hold(t, s, modelOf(k))
	}
}

func TestNewOfAllThatFit(t *testing.T) {
	for _, text := range []string{"0.0.0.0/0", "10.0.0.0/8", "10.1.0.0/16", "255.255.255.0/24", "10.0.0.1/32", "::/0", "fd00::/48", "fd00::/60", "fd00::/64", "fd00::/120", "::1/128"} {
		p := told(text)
		for bits := -2; bits <= 131; bits++ {
			s, e := New(p, bits)
			want, size := api.OK, 0
			switch {
			case bits < p.Bits || bits > widthOf(p.Addr.V6):
				want = api.ErrArg
			case bits > p.Bits+16:
				want = api.ErrLong
			default:
				size = 1 << (bits - p.Bits)
			}
			if e != want || (s != nil) != (want == api.OK) || s.Size() != size || s.Left() != size {
				t.Errorf("New(%s, %d): %d with %d blocks, want %d with %d", text, bits, e, s.Size(), want, size)
			}
		}
	}
}

// TestNewOfTooMany has numbers of blocks one bit above the most, and others
// that have nothing in their lower word.
func TestNewOfTooMany(t *testing.T) {
	for _, c := range []kind{
		{"10.0.0.0/8", 25, 0}, {"10.0.0.0/15", 32, 0}, {"0.0.0.0/0", 17, 0}, {"0.0.0.0/0", 32, 0},
		{"fd00::/48", 65, 0}, {"fd00::/111", 128, 0}, {"::/0", 17, 0}, {"::/0", 63, 0},
		{"::/0", 64, 0}, {"::/0", 65, 0}, {"::/0", 80, 0}, {"::/0", 127, 0}, {"::/0", 128, 0},
		{"8000::/1", 128, 0}, {"fd00::/8", 72, 0}, {"fd00::/8", 88, 0}, {"fd00::/64", 128, 0},
	} {
		if s, e := New(told(c.text), c.bits); s != nil || e != api.ErrLong {
			t.Errorf("New(%s, %d) = %v, %d", c.text, c.bits, s, e)
		}
	}
}

func TestNewOfWrongBits(t *testing.T) {
	for _, c := range []kind{
		{"10.0.0.0/8", 7, 0}, {"10.0.0.0/8", 0, 0}, {"10.0.0.0/8", 33, 0}, {"10.0.0.0/8", 128, 0},
		{"10.0.0.0/24", 23, 0}, {"10.0.0.1/32", 31, 0}, {"10.0.0.1/32", 33, 0}, {"0.0.0.0/0", -1, 0}, {"0.0.0.0/0", 33, 0},
		{"fd00::/64", 63, 0}, {"fd00::/64", 129, 0}, {"::/0", -1, 0}, {"::/0", 129, 0}, {"::1/128", 127, 0}, {"::1/128", 129, 0},
		{"10.0.0.0/8", math.MinInt, 0}, {"10.0.0.0/8", math.MaxInt, 0}, {"::/0", math.MinInt, 0}, {"::/0", math.MaxInt, 0},
		{"10.0.0.0/8", 1<<32 + 16, 0}, {"::/0", -1 << 32, 0},
	} {
		if s, e := New(told(c.text), c.bits); s != nil || e != api.ErrArg {
			t.Errorf("New(%s, %d) = %v, %d", c.text, c.bits, s, e)
		}
	}
}

// TestNewOfWhatMayNotBe asks with bits that would be too many blocks, too.
func TestNewOfWhatMayNotBe(t *testing.T) {
	for _, p := range wrongPrefixes() {
		for _, bits := range []int{p.Bits, p.Bits + 1, p.Bits + 16, p.Bits + 17, -1, 0, 16, 24, 32, 64, 128, 129} {
			if s, e := New(p, bits); s != nil || e != api.ErrArg {
				t.Errorf("New(%v, %d) = %v, %d", p, bits, s, e)
			}
		}
	}
}

func TestUsedAndLeft(t *testing.T) {
	for _, k := range kinds() {
		for _, m := range someUsed(k) {
			hold(t, setOf(m), m)
		}
	}
}

func TestUsedIsInOrderHoweverTheyCame(t *testing.T) {
	s := kind{"10.0.0.0/16", 24, 256}.made()
	for _, text := range []string{"10.0.255.0/24", "10.0.5.0/24", "10.0.64.0/23", "10.0.0.0/24", "10.0.63.7/32", "10.0.128.0/24"} {
		if _, e := s.Occupy(told(text)); e != api.OK {
			t.Fatal(text, e)
		}
	}
	var want []api.Prefix
	for _, text := range []string{"10.0.0.0/24", "10.0.5.0/24", "10.0.63.0/24", "10.0.64.0/24", "10.0.65.0/24", "10.0.128.0/24", "10.0.255.0/24"} {
		want = append(want, told(text))
	}
	if got := s.Used(); !slices.Equal(got, want) || s.Left() != 249 {
		t.Error(got, s.Left())
	}
}

func TestUsedIsNewMemory(t *testing.T) {
	s := kind{"10.0.0.0/16", 24, 256}.made()
	for range 3 {
		s.Next()
	}
	first, second := s.Used(), s.Used()
	want := slices.Clone(first)
	clear(first[:cap(first)])
	if !slices.Equal(second, want) || !slices.Equal(s.Used(), want) {
		t.Error(second, s.Used())
	}
}

// P7.4

// TestCopyHasTheSameCursor copies a set at each place of the cursor, with what
// was given released again, so that a cursor at another place gives another
// block.
func TestCopyHasTheSameCursor(t *testing.T) {
	for _, k := range smallKinds() {
		for _, start := range someUsed(k) {
			s, m := setOf(start), start.copy()
			for range k.size + 1 {
				c, n := s.Copy(), m.copy()
				hold(t, c, n)
				for range k.size + 1 {
					holdNext(t, c, n)
				}
				hold(t, c, n)
				holdNext(t, s, m)
				holdRelease(t, s, m, m.blocks[(m.cursor+k.size-1)%k.size])
			}
		}
	}
}

func TestCopiesGoTheirOwnWay(t *testing.T) {
	for _, k := range kinds() {
		for _, start := range someUsed(k)[4:] {
			s, m := setOf(start), start.copy()
			holdNext(t, s, m)
			c, n := s.Copy(), m.copy()
			if s == c {
				t.Fatalf("%s by %d: Copy() is the set itself", k.text, k.bits)
			}
			turnSome(t, c, n)
			hold(t, s, m)
			holdNext(t, s, m)
			hold(t, c, n)
			turnSome(t, s, m)
			hold(t, c, n)
			holdNext(t, c, n)
			holdNext(t, s, m)
			hold(t, s, m)
		}
	}
}

// turnSome makes calls of each kind that changes a set.
func turnSome(t *testing.T, s *Set, m *model) {
	t.Helper()
	for range 3 {
		holdNext(t, s, m)
	}
	holdOccupy(t, s, m, m.blocks[m.size/2])
	holdRelease(t, s, m, m.blocks[m.size-1])
	holdRelease(t, s, m, m.blocks[0])
	holdNext(t, s, m)
}
