package prefix

import (
	"cmp"
	"encoding/binary"
	"math"
	"net/netip"
	"slices"
	"testing"

	"platbook/addr"
	"platbook/api"
	"platbook/num"
)

const top = math.MaxUint64

// toLibrary is a as the library has it. It needs one that may be.
func toLibrary(a api.Addr) netip.Addr {
	if !a.V6 {
		return netip.AddrFrom4([4]byte(binary.BigEndian.AppendUint32(nil, uint32(a.N.Lo))))
	}
	high := binary.BigEndian.AppendUint64(nil, a.N.Hi)
	return netip.AddrFrom16([16]byte(binary.BigEndian.AppendUint64(high, a.N.Lo)))
}

func fromLibrary(ip netip.Addr) api.Addr {
	bytes := ip.AsSlice()
	if ip.Is4() {
		return api.Addr{N: api.Num{Lo: uint64(binary.BigEndian.Uint32(bytes))}}
	}
	return api.Addr{V6: true, N: api.Num{Hi: binary.BigEndian.Uint64(bytes), Lo: binary.BigEndian.Uint64(bytes[8:])}}
}

// masked is the prefix of that many bits that has a, as the library reckons it.
func masked(a api.Addr, bits int) api.Prefix {
	return api.Prefix{Addr: fromLibrary(netip.PrefixFrom(toLibrary(a), bits).Masked().Addr()), Bits: bits}
}

func libraryPrefix(p api.Prefix) netip.Prefix {
	return netip.PrefixFrom(toLibrary(p.Addr), p.Bits)
}

// told is the prefix that a text tells the library.
func told(text string) api.Prefix {
	p := netip.MustParsePrefix(text)
	return api.Prefix{Addr: fromLibrary(p.Addr()), Bits: p.Bits()}
}

func toldAddr(text string) api.Addr {
	return fromLibrary(netip.MustParseAddr(text))
}

// widthOf is how many bits a's family has.
func widthOf(a api.Addr) int {
	return toLibrary(a).BitLen()
}

// someAddrs are of both families: edges, those whose numbers are the same in
// both, and those of no pattern, the same ones each time.
func someAddrs() []api.Addr {
	var list []api.Addr
	for _, n := range []uint32{0, 1, 0x0a000000, 0x7fffffff, 0x80000000, 0xfffffffe, 0xffffffff} {
		list = append(list, addr.V4(n), addr.V6(0, uint64(n)), addr.V6(uint64(n)<<32, 0))
	}
	list = append(list,
		addr.V6(0, top), addr.V6(1, 0), addr.V6(0, 1<<63), addr.V6(1<<63-1, top), addr.V6(1<<63, 0),
		addr.V6(top, 0), addr.V6(top, top-1), addr.V6(top, top), addr.V6(0, 0xffff0a000000))
	state := uint64(11)
	for range 6 {
		state = state*6364136223846793005 + 1442695040888963407
		list = append(list, addr.V4(uint32(state>>32)), addr.V6(state, state*state+state>>7))
	}
	return list
}

// wrongAddrs may not be.
func wrongAddrs() []api.Addr {
	return []api.Addr{
		{N: api.Num{Lo: 1 << 32}},
		{N: api.Num{Lo: 1<<32 + 5}},
		{N: api.Num{Lo: top}},
		{N: api.Num{Hi: 1}},
		{N: api.Num{Hi: top, Lo: top}},
	}
}

// rightPrefixes are those of all counts of bits that have one of someAddrs.
func rightPrefixes() []api.Prefix {
	var list []api.Prefix
	for _, a := range someAddrs() {
		for bits := 0; bits <= widthOf(a); bits++ {
			list = append(list, masked(a, bits))
		}
	}
	return list
}

// edgePrefixes are some of rightPrefixes, few enough to hold each one against
// each other, and each one's neighbours.
func edgePrefixes() []api.Prefix {
	list := familyEdges()
	for _, text := range []string{
		"10.1.0.0/16", "10.1.0.0/17", "10.1.128.0/17", "10.1.2.0/23", "10.1.2.0/24", "10.1.3.0/24", "10.1.4.0/24", "10.1.2.128/25", "10.1.2.3/32", "10.2.0.0/15", "10.0.0.0/8", "11.0.0.0/8",
		"2001:db8::/32", "2001:db8::/33", "2001:db8:8000::/33", "2001:db9::/32", "2001:db8:0:1::/64", "2001:db8:0:1::/65", "2001:db8:0:1:8000::/65", "2001:db8:0:2::/63", "2001:db8:0:2::/64", "2001:db8:0:3::/64", "2001:db8::1/128",
		"::a00:0/104", "::a01:0/112", "::ffff:10.1.0.0/112", "::ffff:0:0/96",
	} {
		list = append(list, told(text))
	}
	return list
}

// familyEdges are at the first and at the last address of each family.
func familyEdges() []api.Prefix {
	var list []api.Prefix
	for _, a := range []api.Addr{addr.V4(0), addr.V4(math.MaxUint32), addr.V6(0, 0), addr.V6(top, top)} {
		for _, bits := range []int{0, 1, 2, 8, 30, 31, 32, 33, 63, 64, 65, 126, 127, 128} {
			if bits <= widthOf(a) {
				list = append(list, masked(a, bits))
			}
		}
	}
	return list
}

// wrongPrefixes may not be: by their address, by their bits, by a bit behind.
func wrongPrefixes() []api.Prefix {
	var list []api.Prefix
	for _, a := range wrongAddrs() {
		for _, bits := range []int{-1, 0, 1, 31, 32, 33, 64, 128} {
			list = append(list, api.Prefix{Addr: a, Bits: bits})
		}
	}
	for _, a := range []api.Addr{addr.V4(0), addr.V4(0x0a000000), addr.V4(math.MaxUint32), addr.V6(0, 0), addr.V6(0x20010db8<<32, 0), addr.V6(top, top)} {
		for _, bits := range []int{math.MinInt, math.MinInt + 1, -129, -128, -33, -32, -1, widthOf(a) + 1, 129, 256, math.MaxInt32, math.MaxInt - 1, math.MaxInt} {
			list = append(list, api.Prefix{Addr: a, Bits: bits})
		}
	}
	return append(list, []api.Prefix{
		{Addr: addr.V4(1), Bits: 0},
		{Addr: addr.V4(0x80000000), Bits: 0},
		{Addr: addr.V4(0x0a000001), Bits: 8},
		{Addr: addr.V4(0x0a800000), Bits: 8},
		{Addr: addr.V4(1), Bits: 31},
		{Addr: addr.V4(math.MaxUint32), Bits: 31},
		{Addr: addr.V6(0, 1), Bits: 0},
		{Addr: addr.V6(1<<63, 0), Bits: 0},
		{Addr: addr.V6(0, 1), Bits: 64},
		{Addr: addr.V6(0, 1<<63), Bits: 64},
		{Addr: addr.V6(1, 0), Bits: 63},
		{Addr: addr.V6(0, 1), Bits: 127},
		{Addr: addr.V6(top, top), Bits: 127},
		{Addr: addr.V6(0, 0x80000000), Bits: 32},
	}...)
}

// probes are addresses at p's ends, in its middle, and beside it, and those with
// the same numbers in the other family.
func probes(p api.Prefix) []api.Addr {
	first := toLibrary(p.Addr)
	last := toLibrary(libraryLast(p))
	list := []api.Addr{p.Addr, libraryLast(p)}
	for _, ip := range []netip.Addr{first.Prev(), first.Next(), last.Prev(), last.Next()} {
		if ip.IsValid() {
			list = append(list, fromLibrary(ip))
		}
	}
	if p.Bits < widthOf(p.Addr) {
		middle := toLibrary(libraryLast(api.Prefix{Addr: p.Addr, Bits: p.Bits + 1}))
		list = append(list, fromLibrary(middle), fromLibrary(middle.Next()))
	}
	for _, a := range list {
		if a.V6 && a.N.Hi == 0 && a.N.Lo <= math.MaxUint32 || !a.V6 {
			list = append(list, api.Addr{V6: !a.V6, N: a.N})
		}
	}
	return list
}

// libraryLast is p's last address, by bytes of the library's.
func libraryLast(p api.Prefix) api.Addr {
	bytes := toLibrary(p.Addr).AsSlice()
	for k := p.Bits; k < 8*len(bytes); k++ {
		bytes[k/8] |= 0x80 >> (k % 8)
	}
	ip, _ := netip.AddrFromSlice(bytes)
	return fromLibrary(ip)
}

// P3.1

func TestRight(t *testing.T) {
	for _, p := range append(rightPrefixes(), edgePrefixes()...) {
		if !Right(p) {
			t.Errorf("Right(%v) is false", p)
		}
	}
	for _, p := range wrongPrefixes() {
		if Right(p) {
			t.Errorf("Right(%v) is true", p)
		}
	}
}

// TestRightByEachBit turns each bit of a prefix: ahead of its Bits there is
// another prefix then, behind them one that may not be.
func TestRightByEachBit(t *testing.T) {
	for _, p := range familyEdges() {
		width := widthOf(p.Addr)
		for at := range width {
			turned := p
			one := num.Shl(num.Of(1), width-1-at)
			turned.Addr.N = api.Num{Hi: p.Addr.N.Hi ^ one.Hi, Lo: p.Addr.N.Lo ^ one.Lo}
			if got, want := Right(turned), at < p.Bits; got != want {
				t.Errorf("Right(%v) = %v", turned, got)
			}
		}
	}
}

func TestOf(t *testing.T) {
	tests := []struct {
		a    string
		bits int
		want string
	}{
		{"10.1.0.255", 24, "10.1.0.0/24"},
		{"10.1.2.3", 0, "0.0.0.0/0"},
		{"255.255.255.255", 0, "0.0.0.0/0"},
		{"255.255.255.255", 1, "128.0.0.0/1"},
		{"10.1.2.3", 31, "10.1.2.2/31"},
		{"10.1.2.3", 32, "10.1.2.3/32"},
		{"2001:db8:1:2:3:4:5:6", 48, "2001:db8:1::/48"},
		{"2001:db8::1", 0, "::/0"},
		{"ffff::1", 1, "8000::/1"},
		{"::ffff", 127, "::fffe/127"},
		{"1:2:3:4:5:6:7:8", 64, "1:2:3:4::/64"},
		{"1:2:3:4:ffff:6:7:8", 65, "1:2:3:4:8000::/65"},
		{"1:2:3:5:5:6:7:8", 63, "1:2:3:4::/63"},
		{"::1", 128, "::1/128"},
	}
	for _, c := range tests {
		if got, e := Of(toldAddr(c.a), c.bits); got != told(c.want) || e != api.OK {
			t.Errorf("Of(%s, %d) = %v, %d", c.a, c.bits, got, e)
		}
	}
}

func TestOfAgainstTheLibrary(t *testing.T) {
	for _, a := range someAddrs() {
		for bits := 0; bits <= widthOf(a); bits++ {
			if got, e := Of(a, bits); got != masked(a, bits) || e != api.OK {
				t.Errorf("Of(%v, %d) = %v, %d", a, bits, got, e)
			}
		}
	}
}

func TestOfWhatCannotBe(t *testing.T) {
	for _, a := range wrongAddrs() {
		for _, bits := range []int{-1, 0, 1, 31, 32, 33, 128} {
			if got, e := Of(a, bits); got != (api.Prefix{}) || e != api.ErrArg {
				t.Errorf("Of(%v, %d) = %v, %d", a, bits, got, e)
			}
		}
	}
	for _, a := range someAddrs() {
		for _, bits := range []int{math.MinInt, -128, -32, -1, widthOf(a) + 1, 129, 256, math.MaxInt} {
			if got, e := Of(a, bits); got != (api.Prefix{}) || e != api.ErrArg {
				t.Errorf("Of(%v, %d) = %v, %d", a, bits, got, e)
			}
		}
	}
}

func TestFirstAndLast(t *testing.T) {
	tests := []struct{ p, first, last string }{
		{"10.1.0.0/16", "10.1.0.0", "10.1.255.255"},
		{"0.0.0.0/0", "0.0.0.0", "255.255.255.255"},
		{"128.0.0.0/1", "128.0.0.0", "255.255.255.255"},
		{"1.2.3.4/31", "1.2.3.4", "1.2.3.5"},
		{"1.2.3.4/32", "1.2.3.4", "1.2.3.4"},
		{"255.255.255.255/32", "255.255.255.255", "255.255.255.255"},
		{"::/0", "::", "ffff:ffff:ffff:ffff:ffff:ffff:ffff:ffff"},
		{"2001:db8::/32", "2001:db8::", "2001:db8:ffff:ffff:ffff:ffff:ffff:ffff"},
		{"1:2:3:4::/64", "1:2:3:4::", "1:2:3:4:ffff:ffff:ffff:ffff"},
		{"::/96", "::", "::ffff:ffff"},
		{"::1/128", "::1", "::1"},
	}
	for _, c := range tests {
		if got := First(told(c.p)); got != toldAddr(c.first) {
			t.Errorf("First(%s) = %v", c.p, got)
		}
		if got := Last(told(c.p)); got != toldAddr(c.last) {
			t.Errorf("Last(%s) = %v", c.p, got)
		}
	}
	for _, p := range rightPrefixes() {
		if first, last := First(p), Last(p); first != p.Addr || last != libraryLast(p) {
			t.Errorf("%v is from %v to %v", p, first, last)
		}
	}
}

func TestFirstAndLastOfWhatMayNotBe(t *testing.T) {
	for _, p := range wrongPrefixes() {
		if first, last := First(p), Last(p); first != (api.Addr{}) || last != (api.Addr{}) {
			t.Errorf("%v is from %v to %v", p, first, last)
		}
	}
}

// P3.2

func TestHas(t *testing.T) {
	tests := []struct {
		p, a string
		want bool
	}{
		{"10.1.0.0/16", "10.1.0.0", true},
		{"10.1.0.0/16", "10.1.255.255", true},
		{"10.1.0.0/16", "10.2.0.0", false},
		{"10.1.0.0/16", "10.0.255.255", false},
		{"10.1.0.0/16", "::a01:0", false},
		{"10.1.0.0/16", "::ffff:10.1.0.0", false},
		{"0.0.0.0/0", "255.255.255.255", true},
		{"0.0.0.0/0", "::", false},
		{"::/0", "0.0.0.0", false},
		{"::/0", "ffff:ffff:ffff:ffff:ffff:ffff:ffff:ffff", true},
		{"1.2.3.4/32", "1.2.3.4", true},
		{"1.2.3.4/32", "1.2.3.5", false},
		{"::1/128", "::1", true},
		{"::1/128", "::", false},
		{"::1/128", "1::1", false},
	}
	for _, c := range tests {
		if got := Has(told(c.p), toldAddr(c.a)); got != c.want {
			t.Errorf("Has(%s, %s) = %v", c.p, c.a, got)
		}
	}
}

func TestHasAgainstTheLibrary(t *testing.T) {
	for _, p := range rightPrefixes() {
		for _, a := range append(probes(p), someAddrs()...) {
			if got, want := Has(p, a), libraryPrefix(p).Contains(toLibrary(a)); got != want {
				t.Fatalf("Has(%v, %v) = %v", p, a, got)
			}
		}
	}
}

func TestHasOfWhatMayNotBe(t *testing.T) {
	for _, p := range wrongPrefixes() {
		for _, a := range append(someAddrs(), p.Addr) {
			if Has(p, a) {
				t.Errorf("Has(%v, %v) is true", p, a)
			}
		}
	}
	for _, p := range edgePrefixes() {
		for _, a := range wrongAddrs() {
			if Has(p, a) {
				t.Errorf("Has(%v, %v) is true", p, a)
			}
		}
	}
}

func TestWithinAndOverlap(t *testing.T) {
	tests := []struct {
		p, q            string
		within, overlap bool
	}{
		{"10.1.2.0/24", "10.1.0.0/16", true, true},
		{"10.1.0.0/16", "10.1.2.0/24", false, true},
		{"10.1.0.0/16", "10.1.0.0/16", true, true},
		{"10.1.0.0/17", "10.1.0.0/16", true, true},
		{"10.1.0.0/16", "10.1.0.0/17", false, true},
		{"10.1.2.0/24", "10.1.3.0/24", false, false},
		{"10.1.3.0/24", "10.1.2.0/23", true, true},
		{"10.1.4.0/24", "10.1.2.0/23", false, false},
		{"0.0.0.0/0", "0.0.0.0/0", true, true},
		{"255.255.255.255/32", "0.0.0.0/0", true, true},
		{"0.0.0.0/32", "0.0.0.0/32", true, true},
		{"0.0.0.0/32", "0.0.0.1/32", false, false},
		{"::/0", "0.0.0.0/0", false, false},
		{"0.0.0.0/0", "::/0", false, false},
		{"10.0.0.0/8", "::/0", false, false},
		{"::a00:0/104", "10.0.0.0/8", false, false},
		{"::ffff:10.0.0.0/104", "10.0.0.0/8", false, false},
		{"::/32", "0.0.0.0/32", false, false},
		{"2001:db8:8000::/33", "2001:db8::/32", true, true},
		{"2001:db8:8000::/33", "2001:db8::/33", false, false},
		{"::1/128", "::/127", true, true},
		{"::2/128", "::/127", false, false},
	}
	for _, c := range tests {
		p, q := told(c.p), told(c.q)
		if got := Within(p, q); got != c.within {
			t.Errorf("Within(%s, %s) = %v", c.p, c.q, got)
		}
		if Overlap(p, q) != c.overlap || Overlap(q, p) != c.overlap {
			t.Errorf("Overlap(%s, %s) = %v, %v", c.p, c.q, Overlap(p, q), Overlap(q, p))
		}
	}
}

// TestWithinAndOverlapByEnds holds the two against their words, by the order of
// the library's addresses alone.
func TestWithinAndOverlapByEnds(t *testing.T) {
	for _, p := range edgePrefixes() {
		for _, q := range edgePrefixes() {
			pFirst, pLast := toLibrary(p.Addr), toLibrary(libraryLast(p))
			qFirst, qLast := toLibrary(q.Addr), toLibrary(libraryLast(q))
			ofOne := p.Addr.V6 == q.Addr.V6
			if got, want := Within(p, q), ofOne && qFirst.Compare(pFirst) <= 0 && pLast.Compare(qLast) <= 0; got != want {
				t.Errorf("Within(%v, %v) = %v", p, q, got)
			}
			if got, want := Overlap(p, q), ofOne && qFirst.Compare(pLast) <= 0 && pFirst.Compare(qLast) <= 0; got != want {
				t.Errorf("Overlap(%v, %v) = %v", p, q, got)
			}
		}
	}
}

func TestWithinAndOverlapOfWhatMayNotBe(t *testing.T) {
	for _, wrong := range wrongPrefixes() {
		for _, other := range append(edgePrefixes(), wrong) {
			if Within(wrong, other) || Within(other, wrong) {
				t.Fatalf("%v and %v: one lies within the other", wrong, other)
			}
			if Overlap(wrong, other) || Overlap(other, wrong) {
				t.Fatalf("%v and %v overlap", wrong, other)
			}
		}
	}
}

func TestCmp(t *testing.T) {
	var inOrder []api.Prefix
	for _, text := range []string{
		"0.0.0.0/0", "0.0.0.0/1", "0.0.0.0/32", "0.0.0.1/32", "10.0.0.0/8", "10.0.0.0/9", "10.0.0.0/32", "10.0.0.128/25", "10.1.0.0/16", "128.0.0.0/1", "128.0.0.0/2", "255.255.255.255/32",
		"::/0", "::/1", "::/8", "::/64", "::/128", "::1/128", "::8000:0:0:0/65", "0:0:0:1::/64", "2001:db8::/32", "2001:db8::/33", "8000::/1", "ffff::/16", "ffff:ffff:ffff:ffff:ffff:ffff:ffff:ffff/128",
	} {
		inOrder = append(inOrder, told(text))
	}
	for i, p := range inOrder {
		for j, q := range inOrder {
			if got, want := Cmp(p, q), cmp.Compare(i, j); got != want {
				t.Errorf("Cmp(%v, %v) = %d, want %d", p, q, got, want)
			}
		}
	}
}

func TestCmpByFirstThenByBits(t *testing.T) {
	for _, p := range edgePrefixes() {
		for _, q := range edgePrefixes() {
			// The library's order of addresses is the document's: the family first.
			want := cmp.Or(toLibrary(p.Addr).Compare(toLibrary(q.Addr)), cmp.Compare(p.Bits, q.Bits))
			if got := Cmp(p, q); got != want {
				t.Errorf("Cmp(%v, %v) = %d, want %d", p, q, got, want)
			}
		}
	}
}

// TestCmpOfWhatMayNotBe: the First of one that may not be is the zero address.
func TestCmpOfWhatMayNotBe(t *testing.T) {
	zero := api.Prefix{}
	for _, wrong := range wrongPrefixes() {
		if got, want := Cmp(wrong, zero), cmp.Compare(wrong.Bits, 0); got != want {
			t.Errorf("Cmp(%v, %v) = %d, want %d", wrong, zero, got, want)
		}
		if got, want := Cmp(zero, wrong), cmp.Compare(0, wrong.Bits); got != want {
			t.Errorf("Cmp(%v, %v) = %d, want %d", zero, wrong, got, want)
		}
		for _, text := range []string{"0.0.0.1/32", "255.255.255.255/32", "::/0", "ffff::/16"} {
			if Cmp(wrong, told(text)) != -1 || Cmp(told(text), wrong) != 1 {
				t.Errorf("Cmp(%v, %s) = %d", wrong, text, Cmp(wrong, told(text)))
			}
		}
		if Cmp(wrong, wrong) != 0 {
			t.Errorf("Cmp(%v, itself) = %d", wrong, Cmp(wrong, wrong))
		}
	}
}

// P3.3

func TestHalves(t *testing.T) {
	tests := []struct{ p, lower, upper string }{
		{"10.0.0.0/8", "10.0.0.0/9", "10.128.0.0/9"},
		{"0.0.0.0/0", "0.0.0.0/1", "128.0.0.0/1"},
		{"128.0.0.0/1", "128.0.0.0/2", "192.0.0.0/2"},
		{"1.2.3.4/31", "1.2.3.4/32", "1.2.3.5/32"},
		{"255.255.255.254/31", "255.255.255.254/32", "255.255.255.255/32"},
		{"::/0", "::/1", "8000::/1"},
		{"::/32", "::/33", "0:0:8000::/33"},
		{"1:2:3:4::/63", "1:2:3:4::/64", "1:2:3:5::/64"},
		{"1:2:3:4::/64", "1:2:3:4::/65", "1:2:3:4:8000::/65"},
		{"::/127", "::/128", "::1/128"},
	}
	for _, c := range tests {
		if lower, upper, e := Halves(told(c.p)); lower != told(c.lower) || upper != told(c.upper) || e != api.OK {
			t.Errorf("Halves(%s) = %v, %v, %d", c.p, lower, upper, e)
		}
	}
}

func TestHalvesOfOneAddress(t *testing.T) {
	for _, a := range someAddrs() {
		p := api.Prefix{Addr: a, Bits: widthOf(a)}
		if lower, upper, e := Halves(p); lower != (api.Prefix{}) || upper != (api.Prefix{}) || e != api.ErrOver {
			t.Errorf("Halves(%v) = %v, %v, %d", p, lower, upper, e)
		}
	}
}

func TestHalvesOfWhatMayNotBe(t *testing.T) {
	for _, p := range wrongPrefixes() {
		if lower, upper, e := Halves(p); lower != (api.Prefix{}) || upper != (api.Prefix{}) || e != api.ErrArg {
			t.Errorf("Halves(%v) = %v, %v, %d", p, lower, upper, e)
		}
	}
}

func TestCommon(t *testing.T) {
	tests := []struct{ p, q, want string }{
		{"10.1.2.0/24", "10.1.3.0/24", "10.1.2.0/23"},
		{"10.1.3.0/24", "10.1.4.0/24", "10.1.0.0/21"},
		{"10.1.2.0/24", "10.1.0.0/16", "10.1.0.0/16"},
		{"10.1.0.0/16", "10.1.0.0/16", "10.1.0.0/16"},
		{"10.0.0.0/32", "10.0.0.0/8", "10.0.0.0/8"},
		{"1.2.3.4/32", "1.2.3.4/32", "1.2.3.4/32"},
		{"1.2.3.4/32", "1.2.3.5/32", "1.2.3.4/31"},
		{"0.0.0.0/32", "255.255.255.255/32", "0.0.0.0/0"},
		{"0.0.0.0/1", "128.0.0.0/1", "0.0.0.0/0"},
		{"0.0.0.0/0", "10.0.0.0/8", "0.0.0.0/0"},
		{"::/0", "::/0", "::/0"},
		{"::/128", "::1/128", "::/127"},
		{"::1/128", "::1/128", "::1/128"},
		{"::/1", "8000::/1", "::/0"},
		{"2001:db8::/48", "2001:db8:1::/48", "2001:db8::/47"},
		{"1:2:3:4::/64", "1:2:3:5::/64", "1:2:3:4::/63"},
		{"1:2:3:4::/66", "1:2:3:4:8000::/66", "1:2:3:4::/64"},
		{"1:2:3:4::1/128", "1:2:3:4:4000::/66", "1:2:3:4::/65"},
	}
	for _, c := range tests {
		if got, e := Common(told(c.p), told(c.q)); got != told(c.want) || e != api.OK {
			t.Errorf("Common(%s, %s) = %v, %d", c.p, c.q, got, e)
		}
		if got, e := Common(told(c.q), told(c.p)); got != told(c.want) || e != api.OK {
			t.Errorf("Common(%s, %s) = %v, %d", c.q, c.p, got, e)
		}
	}
}

// wantCommon goes down from the most bits to those at which the library cuts
// both to the same.
func wantCommon(p, q api.Prefix) api.Prefix {
	bits := min(p.Bits, q.Bits)
	for masked(p.Addr, bits) != masked(q.Addr, bits) {
		bits--
	}
	return masked(p.Addr, bits)
}

func TestCommonAgainstTheLibrary(t *testing.T) {
	for _, p := range edgePrefixes() {
		for _, q := range edgePrefixes() {
			if p.Addr.V6 != q.Addr.V6 {
				if got, e := Common(p, q); got != (api.Prefix{}) || e != api.ErrArg {
					t.Errorf("Common(%v, %v) = %v, %d", p, q, got, e)
				}
			} else if got, e := Common(p, q); got != wantCommon(p, q) || e != api.OK {
				t.Errorf("Common(%v, %v) = %v, %d", p, q, got, e)
			}
		}
	}
}

func TestCommonOfWhatMayNotBe(t *testing.T) {
	for _, wrong := range wrongPrefixes() {
		for _, other := range append(edgePrefixes(), wrong) {
			if got, e := Common(wrong, other); got != (api.Prefix{}) || e != api.ErrArg {
				t.Fatalf("Common(%v, %v) = %v, %d", wrong, other, got, e)
			}
			if got, e := Common(other, wrong); got != (api.Prefix{}) || e != api.ErrArg {
				t.Fatalf("Common(%v, %v) = %v, %d", other, wrong, got, e)
			}
		}
	}
}

// P3.4

func TestOfTwoThatOverlapOneLiesWithin(t *testing.T) {
	for _, p := range edgePrefixes() {
		for _, q := range edgePrefixes() {
			if got, want := Overlap(p, q), Within(p, q) || Within(q, p); got != want {
				t.Errorf("%v and %v: overlap %v, one lies within the other %v", p, q, got, want)
			}
		}
	}
}

func TestHalvesHaveAllAndNoneBoth(t *testing.T) {
	for _, p := range rightPrefixes() {
		lower, upper, e := Halves(p)
		if e == api.ErrOver {
			continue
		}
		if Cmp(lower, upper) != -1 || Overlap(lower, upper) || !Within(lower, p) || !Within(upper, p) {
			t.Errorf("%v has the halves %v and %v", p, lower, upper)
		}
		for _, a := range probes(p) {
			inLower, inUpper := Has(lower, a), Has(upper, a)
			if inLower && inUpper || Has(p, a) != (inLower || inUpper) {
				t.Errorf("%v: in %v %v, in its halves %v and %v", a, p, Has(p, a), inLower, inUpper)
			}
		}
		if got, e := Common(lower, upper); got != p || e != api.OK {
			t.Errorf("Common(%v, %v) = %v, %d", lower, upper, got, e)
		}
	}
}

// TestSmallOnesByTheirAddresses goes through all addresses of all prefixes that
// lie within one of sixteen, at both ends of each family.
func TestSmallOnesByTheirAddresses(t *testing.T) {
	for _, text := range []string{"0.0.0.0/28", "255.255.255.240/28", "::/124", "ffff:ffff:ffff:ffff:ffff:ffff:ffff:fff0/124", "1:2:3:4::/124"} {
		all := told(text)
		prefixes := below(t, all)
		if len(prefixes) != 31 {
			t.Fatalf("%s has %d prefixes within", text, len(prefixes))
		}
		for _, p := range prefixes {
			for _, q := range prefixes {
				holdByAddresses(t, all, p, q)
			}
		}
	}
}

// below are p, its halves, theirs, and so on.
func below(t *testing.T, p api.Prefix) []api.Prefix {
	lower, upper, e := Halves(p)
	if e == api.ErrOver {
		return []api.Prefix{p}
	}
	if e != api.OK {
		t.Fatalf("Halves(%v): %d", p, e)
	}
	return slices.Concat([]api.Prefix{p}, below(t, lower), below(t, upper))
}

// holdByAddresses counts the addresses that p and q have.
func holdByAddresses(t *testing.T, all, p, q api.Prefix) {
	inP, inBoth := 0, 0
	for n := range uint64(16) {
		a := all.Addr
		a.N.Lo += n
		if Has(p, a) {
			inP++
			if Has(q, a) {
				inBoth++
			}
		}
	}
	if want := 1 << (widthOf(p.Addr) - p.Bits); inP != want {
		t.Errorf("%v has %d addresses", p, inP)
	}
	if Within(p, q) != (inBoth == inP) || Overlap(p, q) != (inBoth > 0) {
		t.Errorf("%v and %v: within %v, overlap %v, %d of %d addresses", p, q, Within(p, q), Overlap(p, q), inBoth, inP)
	}
	common, e := Common(p, q)
	if e != api.OK || !Within(p, common) || !Within(q, common) {
		t.Errorf("Common(%v, %v) = %v, %d", p, q, common, e)
	}
	lower, upper, e := Halves(common)
	if e == api.OK && (Within(p, lower) && Within(q, lower) || Within(p, upper) && Within(q, upper)) {
		t.Errorf("Common(%v, %v) = %v has too few bits", p, q, common)
	}
}
