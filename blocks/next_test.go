package blocks

import (
	"testing"

	"platbook/api"
	"platbook/prefix"
)

// P7.2

func TestExample(t *testing.T) {
	s := kind{"10.0.0.0/8", 16, 256}.made()
	if n, e := s.Occupy(told("10.0.0.0/15")); n != 2 || e != api.OK {
		t.Errorf("Occupy = %d, %d", n, e)
	}
	if p, e := s.Next(); p != told("10.2.0.0/16") || e != api.OK {
		t.Errorf("Next() = %v, %d", p, e)
	}
}

// wantNext asks for the next blocks, one behind the other; "" stands for none.
func wantNext(t *testing.T, s *Set, texts ...string) {
	t.Helper()
	for _, text := range texts {
		p, e := s.Next()
		if text == "" && (p != api.Prefix{} || e != api.ErrFull) || text != "" && (p != told(text) || e != api.OK) {
			t.Fatalf("Next() = %s, %d, want %q", prefix.Print(p), e, text)
		}
	}
}

func TestNextOfOneBlock(t *testing.T) {
	for _, text := range []string{"10.0.0.0/24", "0.0.0.0/0", "10.0.0.1/32", "::/0", "fd00::/64", "::1/128"} {
		s := kind{text, told(text).Bits, 1}.made()
		wantNext(t, s, text, "", "")
		if n, e := s.Release(told(text)); n != 1 || e != api.OK {
			t.Fatalf("Release(%s) = %d, %d", text, n, e)
		}
		wantNext(t, s, text, "")
	}
}

// TestNextGoesOnBehindWhatCameBack has blocks released behind the cursor: they
// aren't given till it has come to the last one.
func TestNextGoesOnBehindWhatCameBack(t *testing.T) {
	s := kind{"10.0.0.0/22", 24, 4}.made()
	wantNext(t, s, "10.0.0.0/24", "10.0.1.0/24")
	if n, e := s.Release(told("10.0.0.0/23")); n != 2 || e != api.OK {
		t.Fatal(n, e)
	}
	wantNext(t, s, "10.0.2.0/24", "10.0.3.0/24", "10.0.0.0/24")
	if n, e := s.Release(told("10.0.0.0/24")); n != 1 || e != api.OK {
		t.Fatal(n, e)
	}
	wantNext(t, s, "10.0.1.0/24", "10.0.0.0/24", "")
}

// TestNextBehindTheLastBlock has the last one given: the cursor is 0 then,
// though 0 is used, or isn't.
func TestNextBehindTheLastBlock(t *testing.T) {
	s := kind{"fd00::/62", 64, 4}.made()
	s.Occupy(told("fd00::/63"))
	wantNext(t, s, "fd00:0:0:2::/64", "fd00:0:0:3::/64", "")
	s.Release(told("::/0"))
	wantNext(t, s, "fd00::/64")
	s.Occupy(told("fd00:0:0:1::/64"))
	s.Occupy(told("fd00:0:0:2::/64"))
	s.Release(told("fd00::/64"))
	wantNext(t, s, "fd00:0:0:3::/64", "fd00::/64", "")
}

// TestNextLeavesTheCursorWhenFull fills a set with the cursor at each place:
// when all is released it goes on from there.
func TestNextLeavesTheCursorWhenFull(t *testing.T) {
	for _, k := range smallKinds() {
		whole := told(k.text)
		for given := range k.size + 1 {
			s, m := k.made(), modelOf(k)
			for range given {
				holdNext(t, s, m)
			}
			holdOccupy(t, s, m, whole)
			for range 2 {
				holdNext(t, s, m)
			}
			hold(t, s, m)
			holdRelease(t, s, m, whole)
			holdNext(t, s, m)
			hold(t, s, m)
		}
	}
}

// TestNextIsLedByNextAlone occupies and releases between: the cursor stays.
func TestNextIsLedByNextAlone(t *testing.T) {
	for _, k := range kinds() {
		s, m := k.made(), modelOf(k)
		for _, i := range some(k.size) {
			holdOccupy(t, s, m, m.blocks[i])
			holdRelease(t, s, m, m.blocks[i])
			holdHas(t, s, m, m.blocks[i])
		}
		holdNext(t, s, m)
		for _, i := range some(k.size) {
			holdRelease(t, s, m, m.blocks[i])
			holdOccupy(t, s, m, m.blocks[i])
			holdNext(t, s, m)
		}
		hold(t, s, m)
	}
}

func TestNextOfSomeUsed(t *testing.T) {
	for _, k := range kinds() {
		for _, m := range someUsed(k) {
			s := setOf(m)
			for range min(k.size, 200) + 2 {
				holdNext(t, s, m)
			}
			hold(t, s, m)
		}
	}
}

// TestNextOfOneLeft has one block released at a time, all others used: Next
// gives it wherever the cursor is.
func TestNextOfOneLeft(t *testing.T) {
	for _, k := range smallKinds() {
		for first := range k.size {
			m := someUsed(k)[1]
			s := setOf(m)
			for _, i := range []int{first, k.size - 1, 0, first, k.size / 2} {
				holdRelease(t, s, m, m.blocks[i])
				holdNext(t, s, m)
				holdNext(t, s, m)
			}
			hold(t, s, m)
		}
	}
}

// TestNextWhenAllBehindAreUsed has the cursor in the midst, with no block left
// from there on, and some ahead.
func TestNextWhenAllBehindAreUsed(t *testing.T) {
	s := kind{"10.0.0.0/8", 24, 65536}.made()
	s.Occupy(told("10.0.0.0/9"))
	wantNext(t, s, "10.128.0.0/24")
	s.Occupy(told("10.128.0.0/9"))
	wantNext(t, s, "")
	s.Release(told("10.127.255.0/24"))
	s.Release(told("10.5.0.0/24"))
	wantNext(t, s, "10.5.0.0/24", "10.127.255.0/24", "")
	s.Release(told("10.255.255.0/24"))
	s.Release(told("10.0.0.0/24"))
	wantNext(t, s, "10.255.255.0/24", "10.0.0.0/24", "")
}

// P7.5

// TestNextGivesEachOnce takes by Next all there are, in order.
func TestNextGivesEachOnce(t *testing.T) {
	for _, k := range kinds() {
		s, m := k.made(), modelOf(k)
		for _, want := range m.blocks {
			if p, e := s.Next(); p != want || e != api.OK {
				t.Fatalf("%s by %d: Next() = %v, %d, want %v", k.text, k.bits, p, e, want)
			}
		}
		for range 2 {
			if p, e := s.Next(); p != (api.Prefix{}) || e != api.ErrFull {
				t.Fatalf("%s by %d: Next() = %v, %d of a full one", k.text, k.bits, p, e)
			}
		}
		hold(t, s, someUsed(k)[1])
	}
}
