package carve

import (
	"slices"
	"strings"
	"testing"

	"platbook/addr"
	"platbook/api"
	"platbook/num"
	"platbook/prefix"
)

// P4.4

func TestSpread(t *testing.T) {
	tests := []struct{ a, b, want string }{
		// One address.
		{"1.2.3.4", "1.2.3.4", "1.2.3.4/32"},
		{"0.0.0.0", "0.0.0.0", "0.0.0.0/32"},
		{"255.255.255.255", "255.255.255.255", "255.255.255.255/32"},
		{"::", "::", "::/128"},
		{"::1", "::1", "::1/128"},
		{"ffff:ffff:ffff:ffff:ffff:ffff:ffff:ffff", "ffff:ffff:ffff:ffff:ffff:ffff:ffff:ffff", "ffff:ffff:ffff:ffff:ffff:ffff:ffff:ffff/128"},
		// A whole family.
		{"0.0.0.0", "255.255.255.255", "0.0.0.0/0"},
		{"::", "ffff:ffff:ffff:ffff:ffff:ffff:ffff:ffff", "::/0"},
		// One prefix.
		{"10.0.0.0", "10.255.255.255", "10.0.0.0/8"},
		{"128.0.0.0", "255.255.255.255", "128.0.0.0/1"},
		{"1.2.3.4", "1.2.3.5", "1.2.3.4/31"},
		{"2001:db8::", "2001:db8:ffff:ffff:ffff:ffff:ffff:ffff", "2001:db8::/32"},
		{"0:0:0:2::", "0:0:0:3:ffff:ffff:ffff:ffff", "0:0:0:2::/63"},
		// Ends beside a wide prefix's.
		{"9.255.255.255", "10.255.255.255", "9.255.255.255/32 10.0.0.0/8"},
		{"10.0.0.0", "11.0.0.0", "10.0.0.0/8 11.0.0.0/32"},
		{"9.255.255.255", "11.0.0.0", "9.255.255.255/32 10.0.0.0/8 11.0.0.0/32"},
		{"127.255.255.255", "128.0.0.0", "127.255.255.255/32 128.0.0.0/32"},
		{"127.255.255.255", "255.255.255.255", "127.255.255.255/32 128.0.0.0/1"},
		{"0.0.0.0", "128.0.0.0", "0.0.0.0/1 128.0.0.0/32"},
		{"10.0.0.1", "10.0.0.7", "10.0.0.1/32 10.0.0.2/31 10.0.0.4/30"},
		{"10.0.0.0", "10.0.0.6", "10.0.0.0/30 10.0.0.4/31 10.0.0.6/32"},
		{"::ffff:ffff:ffff:ffff", "0:0:0:1:ffff:ffff:ffff:ffff", "::ffff:ffff:ffff:ffff/128 0:0:0:1::/64"},
		{"0:0:0:1::", "0:0:0:2::", "0:0:0:1::/64 0:0:0:2::/128"},
		{"7fff:ffff:ffff:ffff:ffff:ffff:ffff:ffff", "8000::", "7fff:ffff:ffff:ffff:ffff:ffff:ffff:ffff/128 8000::/128"},
		{"::", "8000::", "::/1 8000::/128"},
		// Others.
		{"10.0.0.1", "10.0.0.4", "10.0.0.1/32 10.0.0.2/31 10.0.0.4/32"},
		{"10.0.0.3", "10.0.0.5", "10.0.0.3/32 10.0.0.4/31"},
		{"10.0.0.2", "10.0.0.5", "10.0.0.2/31 10.0.0.4/31"},
		{"10.0.0.0", "10.2.255.255", "10.0.0.0/15 10.2.0.0/16"},
		{"2001:db8::1", "2001:db8::2", "2001:db8::1/128 2001:db8::2/128"},
	}
	for _, c := range tests {
		var want []api.Prefix
		for text := range strings.FieldsSeq(c.want) {
			want = append(want, told(text))
		}
		if got, e := Spread(toldAddr(c.a), toldAddr(c.b)); !slices.Equal(got, want) || e != api.OK {
			t.Errorf("Spread(%s, %s) = %v, %d, want %s", c.a, c.b, got, e, c.want)
		}
	}
}

// holdWidest goes through the prefixes from a to b: each one begins just behind
// the one ahead of it, and none of them could be a bit shorter.
func holdWidest(t *testing.T, a, b api.Addr) []api.Prefix {
	t.Helper()
	list, e := Spread(a, b)
	if e != api.OK || len(list) == 0 {
		t.Fatalf("Spread(%v, %v) = %v, %d", a, b, list, e)
	}
	next := a
	for _, p := range list {
		if !prefix.Right(p) || p.Addr != next {
			t.Fatalf("Spread(%v, %v) has %v in the place of %v", a, b, p, next)
		}
		if p.Bits > 0 {
			wider := cut(p.Addr, p.Bits-1)
			if addr.Cmp(a, prefix.First(wider)) <= 0 && addr.Cmp(prefix.Last(wider), b) <= 0 {
				t.Fatalf("Spread(%v, %v) has %v in the place of %v", a, b, p, wider)
			}
		}
		// Behind a family's last address there is none: then b must be that one.
		next, _ = addr.Plus(prefix.Last(p), one)
	}
	if last := prefix.Last(list[len(list)-1]); last != b {
		t.Fatalf("Spread(%v, %v) ends at %v", a, b, last)
	}
	return list
}

func TestSpreadOfMost(t *testing.T) {
	tests := []struct {
		a, b  string
		count int
	}{
		{"0.0.0.1", "255.255.255.254", 62},
		{"0.0.0.1", "255.255.255.255", 32},
		{"0.0.0.0", "255.255.255.254", 32},
		{"::1", "ffff:ffff:ffff:ffff:ffff:ffff:ffff:fffe", 254},
		{"::1", "ffff:ffff:ffff:ffff:ffff:ffff:ffff:ffff", 128},
		{"::", "ffff:ffff:ffff:ffff:ffff:ffff:ffff:fffe", 128},
		{"2001:db8::1", "2001:db8::ffff:ffff:ffff:fffe", 126},
	}
	for _, c := range tests {
		if list := holdWidest(t, toldAddr(c.a), toldAddr(c.b)); len(list) != c.count {
			t.Errorf("Spread(%s, %s) has %d, want %d", c.a, c.b, len(list), c.count)
		}
	}
}

// TestSpreadBesideEnds has ends at, and next to, those of prefixes.
func TestSpreadBesideEnds(t *testing.T) {
	ends := make(map[bool][]api.Addr)
	for _, p := range somePrefixes() {
		if p.Bits%32 > 1 && p.Bits%32 < 31 {
			continue
		}
		first, last := prefix.First(p), prefix.Last(p)
		near := []api.Addr{first, last}
		if a, e := addr.Plus(last, one); e == api.OK {
			near = append(near, a)
		}
		if p.Addr.N != (api.Num{}) {
			near = append(near, justAhead(first))
		}
		if addr.Cmp(first, last) < 0 {
			near = append(near, justAhead(last))
		}
		ends[p.Addr.V6] = append(ends[p.Addr.V6], near...)
	}
	for _, list := range ends {
		slices.SortFunc(list, addr.Cmp)
		list = slices.Compact(list)
		for i, a := range list {
			for _, b := range list[i:] {
				holdWidest(t, a, b)
			}
		}
	}
}

// justAhead is the address ahead of a, which isn't its family's first.
func justAhead(a api.Addr) api.Addr {
	a.N, _ = num.Sub(a.N, one)
	return a
}

// fewest is how many prefixes there must be from the place a to b of all
// addresses of one small prefix, reckoned from the end.
func fewest(all []api.Addr, prefixes []api.Prefix, a, b int) int {
	need := make([]int, b+2)
	for at := b; at >= a; at-- {
		need[at] = len(all) + 1
		for _, p := range prefixes {
			end := slices.Index(all, prefix.Last(p))
			if p.Addr == all[at] && end <= b {
				need[at] = min(need[at], 1+need[end+1])
			}
		}
	}
	return need[a]
}

// TestSpreadOfSmallOnes goes through all pairs of addresses of small prefixes.
func TestSpreadOfSmallOnes(t *testing.T) {
	for _, small := range smallOnes() {
		all, prefixes := addrsOf(small), below(small)
		for i, a := range all {
			for j := i; j < len(all); j++ {
				list := holdWidest(t, a, all[j])
				if want := fewest(all, prefixes, i, j); len(list) != want {
					t.Errorf("Spread(%v, %v) = %v, want %d", a, all[j], list, want)
				}
			}
		}
	}
}

// TestSpreadOfPrefixes: from a prefix's first address to its last one it is all.
func TestSpreadOfPrefixes(t *testing.T) {
	for _, p := range somePrefixes() {
		if got, e := Spread(prefix.First(p), prefix.Last(p)); !slices.Equal(got, []api.Prefix{p}) || e != api.OK {
			t.Errorf("Spread of the ends of %v = %v, %d", p, got, e)
		}
	}
}

func TestSpreadOfWhatMayNotBe(t *testing.T) {
	hold := func(a, b api.Addr) {
		if got, e := Spread(a, b); len(got) != 0 || e != api.ErrArg {
			t.Errorf("Spread(%v, %v) = %v, %d", a, b, got, e)
		}
	}
	for _, wrong := range wrongAddrs() {
		for _, other := range append(someAddrs(), wrongAddrs()...) {
			hold(wrong, other)
			hold(other, wrong)
		}
	}
	for _, a := range someAddrs() {
		for _, b := range someAddrs() {
			if a.V6 != b.V6 || addr.Cmp(b, a) < 0 {
				hold(a, b)
			}
		}
	}
	tests := []struct{ a, b string }{
		{"1.2.3.4", "1.2.3.3"},
		{"0.0.0.1", "0.0.0.0"},
		{"255.255.255.255", "0.0.0.0"},
		{"::1", "::"},
		{"0:0:0:1::", "::ffff:ffff:ffff:ffff"},
		{"ffff:ffff:ffff:ffff:ffff:ffff:ffff:ffff", "::"},
		{"1.2.3.4", "::"},
		{"0.0.0.0", "::"},
		{"0.0.0.0", "::1"},
		{"10.0.0.0", "::ffff:10.0.0.0"},
		{"::", "0.0.0.0"},
		{"::", "255.255.255.255"},
	}
	for _, c := range tests {
		hold(toldAddr(c.a), toldAddr(c.b))
	}
}

// TestSpreadSharesNothing: who changes an answer changes no other one.
func TestSpreadSharesNothing(t *testing.T) {
	a, b := toldAddr("10.0.0.1"), toldAddr("10.0.0.6")
	first, _ := Spread(a, b)
	second, _ := Spread(a, b)
	want := slices.Clone(second)
	clear(first)
	_ = append(first[:1], first...)
	third, _ := Spread(a, b)
	if !slices.Equal(second, want) || !slices.Equal(third, want) {
		t.Error(second, third)
	}
}
