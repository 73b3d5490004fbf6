package blocks

import (
	"math/rand/v2"
	"slices"
	"testing"

	"platbook/addr"
	"platbook/api"
)

// P7.3

// TestOccupyAndRelease has prefixes of each size and place, told by hand.
func TestOccupyAndRelease(t *testing.T) {
	tests := []struct {
		of   string
		bits int
		q    string
		want int
		err  api.Errno
	}{
		{"10.0.0.0/22", 24, "0.0.0.0/0", 4, api.OK},
		{"10.0.0.0/22", 24, "10.0.0.0/8", 4, api.OK},
		{"10.0.0.0/22", 24, "10.0.0.0/22", 4, api.OK},
		{"10.0.0.0/22", 24, "10.0.2.0/23", 2, api.OK},
		{"10.0.0.0/22", 24, "10.0.1.0/24", 1, api.OK},
		{"10.0.0.0/22", 24, "10.0.3.128/25", 1, api.OK},
		{"10.0.0.0/22", 24, "10.0.3.255/32", 1, api.OK},
		{"10.0.0.0/22", 24, "10.0.0.0/32", 1, api.OK},
		{"10.0.0.0/22", 24, "10.0.4.0/24", 0, api.ErrRange},
		{"10.0.0.0/22", 24, "10.0.4.0/22", 0, api.ErrRange},
		{"10.0.0.0/22", 24, "9.255.255.255/32", 0, api.ErrRange},
		{"10.0.0.0/22", 24, "11.0.0.0/8", 0, api.ErrRange},
		{"10.0.0.0/22", 24, "::/0", 0, api.ErrRange},
		{"10.0.0.0/22", 24, "::10.0.0.0/118", 0, api.ErrRange},
		{"10.0.0.0/22", 24, "::ffff:10.0.0.0/118", 0, api.ErrRange},
		{"10.0.0.1/32", 32, "0.0.0.0/0", 1, api.OK},
		{"10.0.0.1/32", 32, "10.0.0.0/31", 1, api.OK},
		{"10.0.0.1/32", 32, "10.0.0.0/32", 0, api.ErrRange},
		{"0.0.0.0/0", 16, "0.0.0.0/0", 65536, api.OK},
		{"0.0.0.0/0", 16, "128.0.0.0/1", 32768, api.OK},
		{"0.0.0.0/0", 16, "255.255.255.255/32", 1, api.OK},
		{"0.0.0.0/0", 16, "::/0", 0, api.ErrRange},
		{"10.0.0.0/8", 24, "8.0.0.0/5", 65536, api.OK},
		{"10.0.0.0/8", 24, "10.64.0.0/10", 16384, api.OK},
		{"fd00::/62", 64, "::/0", 4, api.OK},
		{"fd00::/62", 64, "fd00::/8", 4, api.OK},
		{"fd00::/62", 64, "fd00:0:0:2::/63", 2, api.OK},
		{"fd00::/62", 64, "fd00:0:0:3::/64", 1, api.OK},
		{"fd00::/62", 64, "fd00:0:0:3:8000::/65", 1, api.OK},
		{"fd00::/62", 64, "fd00:0:0:3:ffff:ffff:ffff:ffff/128", 1, api.OK},
		{"fd00::/62", 64, "fd00:0:0:4::/64", 0, api.ErrRange},
		{"fd00::/62", 64, "fe00::/8", 0, api.ErrRange},
		{"fd00::/62", 64, "0.0.0.0/0", 0, api.ErrRange},
		{"::/0", 16, "0.0.0.0/0", 0, api.ErrRange},
		{"::/0", 16, "::ffff:0.0.0.0/96", 1, api.OK},
		{"::/0", 16, "8000::/1", 32768, api.OK},
	}
	for _, c := range tests {
		s, q := kind{c.of, c.bits, 0}.made(), told(c.q)
		again := func(n int, e api.Errno) bool { return n == 0 && e == c.err }
		if n, e := s.Release(q); !again(n, e) || s.Has(q) {
			t.Errorf("of %s: Release(%s) = %d, %d of what isn't used", c.of, c.q, n, e)
		}
		if n, e := s.Occupy(q); n != c.want || e != c.err || s.Has(q) != (c.want > 0) || len(s.Used()) != c.want {
			t.Errorf("of %s: Occupy(%s) = %d, %d, want %d, %d", c.of, c.q, n, e, c.want, c.err)
		}
		if n, e := s.Occupy(q); !again(n, e) || s.Has(q) != (c.want > 0) || len(s.Used()) != c.want {
			t.Errorf("of %s: Occupy(%s) = %d, %d of what is used", c.of, c.q, n, e)
		}
		if n, e := s.Release(q); n != c.want || e != c.err || s.Has(q) || len(s.Used()) != 0 {
			t.Errorf("of %s: Release(%s) = %d, %d, want %d, %d", c.of, c.q, n, e, c.want, c.err)
		}
	}
}

func TestOccupyCountsThoseThatWereNotUsed(t *testing.T) {
	s := kind{"10.0.0.0/8", 16, 256}.made()
	for _, c := range []struct {
		q    string
		want int
	}{{"10.3.0.0/16", 1}, {"10.0.0.0/14", 3}, {"10.0.0.0/13", 4}, {"10.0.0.0/13", 0}, {"10.0.0.0/8", 248}} {
		if n, e := s.Occupy(told(c.q)); n != c.want || e != api.OK {
			t.Errorf("Occupy(%s) = %d, %d, want %d", c.q, n, e, c.want)
		}
	}
	for _, c := range []struct {
		q    string
		want int
	}{{"10.3.0.0/16", 1}, {"10.0.0.0/14", 3}, {"10.0.0.0/13", 4}, {"10.0.0.0/13", 0}, {"10.0.0.0/8", 248}} {
		if n, e := s.Release(told(c.q)); n != c.want || e != api.OK {
			t.Errorf("Release(%s) = %d, %d, want %d", c.q, n, e, c.want)
		}
	}
}

// TestQueries holds each query against the model, in all states.
func TestQueries(t *testing.T) {
	for _, k := range smallKinds() {
		for _, start := range someUsed(k) {
			for _, q := range queries(start) {
				s, m := setOf(start), start.copy()
				holdHas(t, s, m, q)
				holdOccupy(t, s, m, q)
				hold(t, s, m)
				holdOccupy(t, s, m, q)
				holdHas(t, s, m, q)
				holdRelease(t, s, m, q)
				hold(t, s, m)
				holdRelease(t, s, m, q)
				holdHas(t, s, m, q)
				holdOccupy(t, s, m, q)
				hold(t, s, m)
			}
		}
	}
}

func TestQueriesOfMany(t *testing.T) {
	for _, k := range largeKinds() {
		m := someUsed(k)[6]
		s := setOf(m)
		for i, q := range queries(m) {
			holdHas(t, s, m, q)
			holdOccupy(t, s, m, q)
			holdRelease(t, s, m, q)
			if i%2 == 0 {
				holdOccupy(t, s, m, q)
			}
			holdHas(t, s, m, q)
		}
		hold(t, s, m)
	}
}

// TestHasOfOneUsed has one block used, at each place, and asks of each row of
// blocks.
func TestHasOfOneUsed(t *testing.T) {
	k := kind{"10.0.0.0/26", 32, 64}
	for used := range k.size {
		m := modelOf(k)
		m.used[used] = true
		s := setOf(m)
		for bits := 0; bits <= 32; bits++ {
			for _, block := range m.blocks {
				q := around(false, block.Addr.N, bits)
				want := bits <= 26 || used>>(32-bits) == int(block.Addr.N.Lo&63)>>(32-bits)
				if s.Has(q) != want {
					t.Fatalf("Has(%v) = %v with block %d used", q, s.Has(q), used)
				}
			}
		}
	}
}

func TestWrongQueries(t *testing.T) {
	for _, k := range kinds() {
		for _, m := range someUsed(k)[:2] {
			s := setOf(m)
			for _, q := range wrongQueries(k) {
				if n, e := s.Occupy(q); n != 0 || e != api.ErrArg {
					t.Errorf("%s by %d: Occupy(%v) = %d, %d", k.text, k.bits, q, n, e)
				}
				if n, e := s.Release(q); n != 0 || e != api.ErrArg {
					t.Errorf("%s by %d: Release(%v) = %d, %d", k.text, k.bits, q, n, e)
				}
				if s.Has(q) {
					t.Errorf("%s by %d: has %v", k.text, k.bits, q)
				}
			}
			hold(t, s, m)
			holdNext(t, s, m)
		}
	}
}

// TestQueriesOfNoneChangeNothing has prefixes that overlap no block: one beside
// the set's at each end, and all of the other family.
func TestQueriesOfNoneChangeNothing(t *testing.T) {
	for _, k := range kinds() {
		for _, m := range someUsed(k)[:2] {
			s, own := setOf(m), rowOf(told(k.text))
			width := widthOf(own.v6)
			list := []api.Prefix{{Addr: api.Addr{V6: !own.v6}}, {Addr: api.Addr{V6: !own.v6}, Bits: 8}}
			if (own.first != api.Num{}) {
				list = append(list, around(own.v6, minus(own.first, api.Num{Lo: 1}), width))
			}
			if own.last != low(width) {
				list = append(list, around(own.v6, plus(own.last, api.Num{Lo: 1}), width))
			}
			for _, q := range list {
				occupied, e := s.Occupy(q)
				released, f := s.Release(q)
				if occupied != 0 || e != api.ErrRange || released != 0 || f != api.ErrRange || s.Has(q) {
					t.Errorf("%s by %d, of %v: %d, %d and %d, %d, %v", k.text, k.bits, q, occupied, e, released, f, s.Has(q))
				}
			}
			hold(t, s, m)
			holdNext(t, s, m)
		}
	}
}

// P7.5

// TestWhatIsReleasedLeavesTheOthers occupies and releases: those that overlap q
// are used no more, whatever they were; all others are as they were.
func TestWhatIsReleasedLeavesTheOthers(t *testing.T) {
	for _, k := range smallKinds() {
		for _, start := range someUsed(k) {
			for _, q := range queries(start) {
				s := setOf(start)
				_, e := s.Occupy(q)
				_, f := s.Release(q)
				want := slices.DeleteFunc(start.usedOnes(), func(p api.Prefix) bool { return rowOf(p).meets(rowOf(q)) })
				if e != f || !slices.Equal(s.Used(), want) {
					t.Fatalf("%s by %d: behind %v: %v, want %v", k.text, k.bits, q, s.Used(), want)
				}
			}
		}
	}
}

// TestNextOverlapsNothingHeld keeps a list of the addresses that were given and
// occupied, without any blocks: what is released is a block at least, so that
// nothing of a block stays on the list that is used no more.
func TestNextOverlapsNothingHeld(t *testing.T) {
	r := rand.New(rand.NewPCG(7, 5))
	for _, k := range []kind{{"10.0.0.0/24", 28, 16}, {"fd00::/60", 65, 32}, {"0.0.0.0/0", 3, 8}, {"::/0", 4, 16}} {
		s, all := k.made(), rowOf(told(k.text))
		var held []row
		for range 3000 {
			switch r.IntN(4) {
			case 0:
				q := anyPrefix(r, k, 0, widthOf(all.v6))
				if _, e := s.Occupy(q); e == api.OK {
					held = append(held, rowOf(q))
				}
			case 1:
				q := anyPrefix(r, k, k.bits-2, k.bits)
				s.Release(q)
				held = cutOut(held, rowOf(q))
			default:
				p, e := s.Next()
				if e != api.OK {
					s.Release(told(k.text))
					held = nil
					continue
				}
				if i := slices.IndexFunc(held, rowOf(p).meets); i >= 0 {
					t.Fatalf("%s by %d: Next() = %v, with %v held", k.text, k.bits, p, held[i])
				}
				held = append(held, rowOf(p))
			}
		}
	}
}

// cutOut leaves, of each row that meets q, what is ahead of it and behind it.
func cutOut(held []row, q row) []row {
	var left []row
	for _, h := range held {
		if !h.meets(q) {
			left = append(left, h)
			continue
		}
		if less(h.first, q.first) {
			left = append(left, row{h.v6, h.first, minus(q.first, api.Num{Lo: 1})})
		}
		if less(q.last, h.last) {
			left = append(left, row{h.v6, plus(q.last, api.Num{Lo: 1}), h.last})
		}
	}
	return left
}

// anyPrefix is one with an address of the kind's prefix, and bits from the one
// number to the other.
func anyPrefix(r *rand.Rand, k kind, from, to int) api.Prefix {
	p := told(k.text)
	behind := low(addr.Width(p.Addr) - p.Bits)
	n := api.Num{Hi: p.Addr.N.Hi | r.Uint64()&behind.Hi, Lo: p.Addr.N.Lo | r.Uint64()&behind.Lo}
	return around(p.Addr.V6, n, from+r.IntN(to-from+1))
}

// TestCallsOneBehindTheOther makes many calls of all kinds, each one held
// against the model.
func TestCallsOneBehindTheOther(t *testing.T) {
	r := rand.New(rand.NewPCG(7, 1))
	for _, k := range smallKinds() {
		s, m := k.made(), modelOf(k)
		list, wrong := queries(m), wrongQueries(k)
		for range 1000 {
			q := list[r.IntN(len(list))]
			switch r.IntN(9) {
			case 0:
				holdOccupy(t, s, m, q)
			case 1:
				holdRelease(t, s, m, q)
			case 2, 3, 4:
				holdNext(t, s, m)
			case 5:
				holdHas(t, s, m, q)
			case 6:
				holdRelease(t, s, m, m.blocks[r.IntN(k.size)])
			case 7:
				other := s.Copy()
				s.Next()
				s.Occupy(told(k.text))
				s = other
			case 8:
				q = wrong[r.IntN(len(wrong))]
				if _, e := s.Occupy(q); e != api.ErrArg {
					t.Fatalf("%s by %d: Occupy(%v): %d", k.text, k.bits, q, e)
				}
			}
			hold(t, s, m)
		}
	}
}
