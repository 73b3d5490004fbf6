package carve

import (
	"math/big"
	"testing"

	"platbook/addr"
	"platbook/api"
	"platbook/num"
	"platbook/prefix"
)

// P4.2

func TestHosts(t *testing.T) {
	tests := []struct {
		p     string
		count string
		fits  bool
	}{
		{"10.0.0.0/8", "16777216", true},
		{"10.96.0.0/24", "256", true},
		{"0.0.0.0/0", "4294967296", true},
		{"1.2.3.4/31", "2", true},
		{"1.2.3.4/32", "1", true},
		{"::/0", "0", false},
		{"::/1", "170141183460469231731687303715884105728", true},
		{"8000::/1", "170141183460469231731687303715884105728", true},
		{"::/63", "36893488147419103232", true},
		{"2001:db8::/64", "18446744073709551616", true},
		{"::/65", "9223372036854775808", true},
		{"::/96", "4294967296", true},
		{"::1/128", "1", true},
	}
	for _, c := range tests {
		if count, fits, e := Hosts(told(c.p)); count != toldNum(c.count) || fits != c.fits || e != api.OK {
			t.Errorf("Hosts(%s) = %v, %v, %d", c.p, count, fits, e)
		}
	}
}

func TestHostsOfAllBits(t *testing.T) {
	for _, a := range someAddrs() {
		for bits := range addr.Width(a) + 1 {
			count, fits, e := Hosts(cut(a, bits))
			if a.V6 && bits == 0 {
				if count != (api.Num{}) || fits || e != api.OK {
					t.Errorf("Hosts(%v/%d) = %v, %v, %d", a, bits, count, fits, e)
				}
			} else if toBig(count).Cmp(power(addr.Width(a)-bits)) != 0 || !fits || e != api.OK {
				t.Errorf("Hosts(%v/%d) = %v, %v, %d", a, bits, count, fits, e)
			}
		}
	}
}

func TestHost(t *testing.T) {
	tests := []struct{ p, i, want string }{
		{"10.96.0.0/24", "0", "10.96.0.0"},
		{"10.96.0.0/24", "5", "10.96.0.5"},
		{"10.96.0.0/24", "255", "10.96.0.255"},
		{"10.0.0.0/8", "65793", "10.1.1.1"},
		{"0.0.0.0/0", "0", "0.0.0.0"},
		{"0.0.0.0/0", "4294967295", "255.255.255.255"},
		{"1.2.3.4/32", "0", "1.2.3.4"},
		{"255.255.255.255/32", "0", "255.255.255.255"},
		{"::/0", "0", "::"},
		{"::/0", "18446744073709551616", "0:0:0:1::"},
		{"::/0", "340282366920938463463374607431768211455", "ffff:ffff:ffff:ffff:ffff:ffff:ffff:ffff"},
		{"2001:db8::/64", "18446744073709551615", "2001:db8::ffff:ffff:ffff:ffff"},
		{"2001:db8::/63", "18446744073709551616", "2001:db8:0:1::"},
		{"::1/128", "0", "::1"},
	}
	for _, c := range tests {
		if got, e := Host(told(c.p), toldNum(c.i)); got != toldAddr(c.want) || e != api.OK {
			t.Errorf("Host(%s, %s) = %v, %d", c.p, c.i, got, e)
		}
		if got, e := Number(told(c.p), toldAddr(c.want)); got != toldNum(c.i) || e != api.OK {
			t.Errorf("Number(%s, %s) = %v, %d", c.p, c.want, got, e)
		}
	}
}

// wantHost is i behind p's first address.
func wantHost(p api.Prefix, i api.Num) api.Addr {
	return api.Addr{V6: p.Addr.V6, N: fromBig(new(big.Int).Add(toBig(p.Addr.N), toBig(i)))}
}

func TestHostAndNumberAgainstBig(t *testing.T) {
	for _, p := range somePrefixes() {
		for _, i := range someNumbers(addr.Width(p.Addr) - p.Bits) {
			a := wantHost(p, i)
			if got, e := Host(p, i); got != a || e != api.OK {
				t.Errorf("Host(%v, %v) = %v, %d, want %v", p, i, got, e, a)
			}
			if got, e := Number(p, a); got != i || e != api.OK {
				t.Errorf("Number(%v, %v) = %v, %d, want %v", p, a, got, e, i)
			}
		}
	}
}

func TestHostTooGreat(t *testing.T) {
	for _, p := range somePrefixes() {
		for _, i := range tooGreat(addr.Width(p.Addr) - p.Bits) {
			if got, e := Host(p, i); got != (api.Addr{}) || e != api.ErrRange {
				t.Errorf("Host(%v, %v) = %v, %d", p, i, got, e)
			}
		}
	}
}

func TestNumberOfWhatItHasNot(t *testing.T) {
	hold := func(p api.Prefix, a api.Addr) {
		if got, e := Number(p, a); got != (api.Num{}) || e != api.ErrRange {
			t.Errorf("Number(%v, %v) = %v, %d", p, a, got, e)
		}
	}
	for _, p := range somePrefixes() {
		for _, q := range around(p) {
			if prefix.Within(p, q) {
				continue
			}
			hold(p, prefix.First(q))
			hold(p, prefix.Last(q))
		}
		// An address that may not be is none that a prefix has.
		for _, a := range wrongAddrs() {
			hold(p, a)
		}
	}
	tests := []struct{ p, a string }{
		{"10.0.0.0/8", "9.255.255.255"},
		{"10.0.0.0/8", "11.0.0.0"},
		{"10.0.0.0/8", "::a00:1"},
		{"10.0.0.0/8", "::ffff:10.0.0.1"},
		{"::/0", "10.0.0.0"},
		{"0.0.0.0/0", "::"},
		{"0.0.0.0/0", "::1"},
		{"::1/128", "::"},
		{"::1/128", "::2"},
		{"1.2.3.4/32", "1.2.3.5"},
	}
	for _, c := range tests {
		hold(told(c.p), toldAddr(c.a))
	}
}

func TestHostsOfWhatMayNotBe(t *testing.T) {
	for _, p := range wrongPrefixes() {
		if count, fits, e := Hosts(p); count != (api.Num{}) || fits || e != api.ErrArg {
			t.Errorf("Hosts(%v) = %v, %v, %d", p, count, fits, e)
		}
		for _, i := range []api.Num{{}, one, {Lo: 1 << 32}, allOnes} {
			if got, e := Host(p, i); got != (api.Addr{}) || e != api.ErrArg {
				t.Errorf("Host(%v, %v) = %v, %d", p, i, got, e)
			}
		}
		for _, a := range append(someAddrs(), p.Addr, api.Addr{N: allOnes}) {
			if got, e := Number(p, a); got != (api.Num{}) || e != api.ErrArg {
				t.Errorf("Number(%v, %v) = %v, %d", p, a, got, e)
			}
		}
	}
}

// P4.5

func TestNumberIsTheWayBackOfHost(t *testing.T) {
	for _, p := range somePrefixes() {
		for _, i := range someNumbers(addr.Width(p.Addr) - p.Bits) {
			a, e := Host(p, i)
			if e != api.OK || !prefix.Has(p, a) {
				t.Fatalf("Host(%v, %v) = %v, %d", p, i, a, e)
			}
			if back, e := Number(p, a); back != i || e != api.OK {
				t.Errorf("Number(%v, Host of %v) = %v, %d", p, i, back, e)
			}
		}
	}
}

// TestHostsOfSmallOnes goes through all addresses of all prefixes that lie
// within small ones.
func TestHostsOfSmallOnes(t *testing.T) {
	for _, small := range smallOnes() {
		for _, p := range below(small) {
			all := addrsOf(p)
			if count, fits, e := Hosts(p); count != num.Of(uint64(len(all))) || !fits || e != api.OK {
				t.Errorf("Hosts(%v) = %v, %v, %d, want %d", p, count, fits, e, len(all))
			}
			for i, a := range all {
				if got, e := Host(p, num.Of(uint64(i))); got != a || e != api.OK {
					t.Errorf("Host(%v, %d) = %v, %d, want %v", p, i, got, e, a)
				}
				if got, e := Number(p, a); got != num.Of(uint64(i)) || e != api.OK {
					t.Errorf("Number(%v, %v) = %v, %d, want %d", p, a, got, e, i)
				}
			}
		}
	}
}
