package carve

import (
	"math"
	"math/big"
	"slices"
	"testing"

	"platbook/addr"
	"platbook/api"
	"platbook/num"
	"platbook/prefix"
)

const top = math.MaxUint64

var (
	one     = api.Num{Lo: 1}
	allOnes = api.Num{Hi: top, Lo: top}
)

// told is the prefix that a text tells.
func told(text string) api.Prefix {
	p, e := prefix.Parse(text)
	if e != api.OK {
		panic("no prefix: " + text)
	}
	return p
}

func toldAddr(text string) api.Addr {
	a, e := addr.Parse(text)
	if e != api.OK {
		panic("no address: " + text)
	}
	return a
}

func toldNum(text string) api.Num {
	n, e := num.Parse(text)
	if e != api.OK {
		panic("no number: " + text)
	}
	return n
}

// cut is the prefix of that many bits that has a.
func cut(a api.Addr, bits int) api.Prefix {
	p, e := prefix.Of(a, bits)
	if e != api.OK {
		panic("no such bits")
	}
	return p
}

func toBig(n api.Num) *big.Int {
	whole := new(big.Int).SetUint64(n.Hi)
	whole.Lsh(whole, 64)
	return whole.Or(whole, new(big.Int).SetUint64(n.Lo))
}

// fromBig needs n from 0 to 2^128 - 1.
func fromBig(n *big.Int) api.Num {
	return api.Num{
		Hi: new(big.Int).Rsh(n, 64).Uint64(),
		Lo: new(big.Int).And(n, new(big.Int).SetUint64(top)).Uint64(),
	}
}

// power is 2^k.
func power(k int) *big.Int {
	return new(big.Int).Lsh(big.NewInt(1), uint(k))
}

// someAddrs are of both families: edges, and those of no pattern, the same ones
// each time.
func someAddrs() []api.Addr {
	var list []api.Addr
	for _, n := range []uint32{0, 1, 0x0a000000, 0x7fffffff, 0x80000000, 0xffffffff} {
		list = append(list, addr.V4(n), addr.V6(0, uint64(n)))
	}
	list = append(list,
		addr.V6(0, top), addr.V6(1, 0), addr.V6(0, 1<<63), addr.V6(1<<63-1, top), addr.V6(1<<63, 0),
		addr.V6(top, 0), addr.V6(top, top), addr.V6(0x20010db8<<32, 0))
	state := uint64(17)
	for range 4 {
		state = state*6364136223846793005 + 1442695040888963407
		list = append(list, addr.V4(uint32(state>>32)), addr.V6(state, state*state+state>>7))
	}
	return list
}

// someBits are counts of bits at which words and families end, with some between.
func someBits(a api.Addr) []int {
	bits := []int{0, 1, 2, 7, 8, 24, 30, 31, 32}
	if a.V6 {
		bits = append(bits, 33, 48, 62, 63, 64, 65, 66, 95, 96, 97, 126, 127, 128)
	}
	return bits
}

// somePrefixes are those of someBits that have one of someAddrs.
func somePrefixes() []api.Prefix {
	var list []api.Prefix
	for _, a := range someAddrs() {
		for _, bits := range someBits(a) {
			list = append(list, cut(a, bits))
		}
	}
	return list
}

// forEachCut hands on somePrefixes with those of someBits that they are cut at.
func forEachCut(each func(p api.Prefix, bits int)) {
	for _, p := range somePrefixes() {
		for _, bits := range someBits(p.Addr) {
			if bits >= p.Bits {
				each(p, bits)
			}
		}
	}
}

// smallOnes have sixteen addresses: at both ends of each family, and where the
// lower word of an address begins and ends.
func smallOnes() []api.Prefix {
	var list []api.Prefix
	for _, text := range []string{
		"0.0.0.0/28", "10.96.0.16/28", "255.255.255.240/28",
		"::/124", "::ffff:ffff:ffff:fff0/124", "0:0:0:1::/124", "2001:db8::40/124", "ffff:ffff:ffff:ffff:ffff:ffff:ffff:fff0/124",
	} {
		list = append(list, told(text))
	}
	return list
}

// below are p, its halves, theirs, and so on.
func below(p api.Prefix) []api.Prefix {
	lower, upper, e := prefix.Halves(p)
	if e != api.OK {
		return []api.Prefix{p}
	}
	return slices.Concat([]api.Prefix{p}, below(lower), below(upper))
}

// addrsOf are all addresses of a small prefix, in order.
func addrsOf(p api.Prefix) []api.Addr {
	var list []api.Addr
	for n := range uint64(1) << (addr.Width(p.Addr) - p.Bits) {
		list = append(list, api.Addr{V6: p.Addr.V6, N: api.Num{Hi: p.Addr.N.Hi, Lo: p.Addr.N.Lo + n}})
	}
	return list
}

// blocksOf are the blocks of a small prefix, in order, cut out by halving.
func blocksOf(p api.Prefix, bits int) []api.Prefix {
	if p.Bits == bits {
		return []api.Prefix{p}
	}
	lower, upper, _ := prefix.Halves(p)
	return slices.Concat(blocksOf(lower, bits), blocksOf(upper, bits))
}

// around is p with its upper ones, some more on the other sides of them, and
// the prefix of the same numbers in the other family.
func around(p api.Prefix) []api.Prefix {
	var list []api.Prefix
	for bits := range p.Bits {
		list = append(list, cut(p.Addr, bits), beside(cut(p.Addr, bits+1)))
	}
	if !p.Addr.V6 {
		return append(list, api.Prefix{Addr: addr.V6(0, p.Addr.N.Lo), Bits: 96 + p.Bits})
	}
	if p.Addr.N.Hi == 0 && p.Addr.N.Lo <= math.MaxUint32 && p.Bits >= 96 {
		list = append(list, api.Prefix{Addr: addr.V4(uint32(p.Addr.N.Lo)), Bits: p.Bits - 96})
	}
	return append(list, told("0.0.0.0/0"))
}

// beside is the other half of what p is a half of. It needs Bits above 0.
func beside(p api.Prefix) api.Prefix {
	lower, upper, _ := prefix.Halves(cut(p.Addr, p.Bits-1))
	if p == lower {
		return upper
	}
	return lower
}

// wrongAddrs may not be.
func wrongAddrs() []api.Addr {
	return []api.Addr{
		{N: api.Num{Lo: 1 << 32}},
		{N: api.Num{Lo: 1<<32 + 5}},
		{N: api.Num{Lo: top}},
		{N: api.Num{Hi: 1}},
		{N: allOnes},
	}
}

// wrongPrefixes may not be: by their address, by their bits, by a bit behind.
func wrongPrefixes() []api.Prefix {
	var list []api.Prefix
	for _, a := range wrongAddrs() {
		for _, bits := range []int{-1, 0, 1, 31, 32, 33, 128} {
			list = append(list, api.Prefix{Addr: a, Bits: bits})
		}
	}
	for _, a := range []api.Addr{addr.V4(0), addr.V4(0x0a000000), addr.V4(math.MaxUint32), addr.V6(0, 0), addr.V6(top, top)} {
		for _, bits := range []int{math.MinInt, -129, -128, -1, addr.Width(a) + 1, 129, 256, math.MaxInt} {
			list = append(list, api.Prefix{Addr: a, Bits: bits})
		}
	}
	return append(list, []api.Prefix{
		{Addr: addr.V4(1), Bits: 0},
		{Addr: addr.V4(0x0a000001), Bits: 8},
		{Addr: addr.V4(0x0a800000), Bits: 8},
		{Addr: addr.V4(math.MaxUint32), Bits: 31},
		{Addr: addr.V6(0, 1), Bits: 0},
		{Addr: addr.V6(1<<63, 0), Bits: 0},
		{Addr: addr.V6(0, 1), Bits: 64},
		{Addr: addr.V6(1, 0), Bits: 63},
		{Addr: addr.V6(top, top), Bits: 127},
	}...)
}

// anyBits are those of any width, and beyond.
func anyBits() []int {
	return []int{math.MinInt, math.MinInt32, -128, -1, 0, 1, 8, 31, 32, 33, 64, 127, 128, 129, 160, 256, math.MaxInt32, math.MaxInt}
}

// wrongBits are those that p has no blocks of. It needs a p that may be.
func wrongBits(p api.Prefix) []int {
	list := []int{math.MinInt, math.MinInt + 1, -129, -128, -33, -1, p.Bits - 1, addr.Width(p.Addr) + 1, 129, 160, 256, math.MaxInt32, math.MaxInt - 1, math.MaxInt}
	for bits := range p.Bits {
		list = append(list, bits)
	}
	if !p.Addr.V6 {
		list = append(list, 64, 128)
	}
	return list
}

// someNumbers are below 2^k: the first, the last, and some between.
func someNumbers(k int) []api.Num {
	last := new(big.Int).Sub(power(k), big.NewInt(1))
	list := []api.Num{{}, fromBig(last), fromBig(new(big.Int).Rsh(last, 1)), fromBig(new(big.Int).Div(last, big.NewInt(3)))}
	if k > 0 {
		list = append(list, one, fromBig(power(k-1)), fromBig(new(big.Int).Sub(last, big.NewInt(1))))
	}
	return list
}

// tooGreat are numbers from 2^k on.
func tooGreat(k int) []api.Num {
	if k == 128 {
		return nil
	}
	first := fromBig(power(k))
	list := []api.Num{first, num.Or(first, one), allOnes, {Hi: 1 << 63}, num.Not(one)}
	if k < 127 {
		list = append(list, num.Shl(first, 1))
	}
	// What is left of these, where bits beyond a word, or beyond the blocks' own,
	// are lost, would be small.
	if k < 64 {
		list = append(list, api.Num{Hi: 1}, api.Num{Hi: top})
	}
	return slices.DeleteFunc(list, func(n api.Num) bool { return num.Cmp(n, first) < 0 })
}

func TestExamples(t *testing.T) {
	if got, e := Block(told("10.0.0.0/8"), 24, num.Of(257)); got != told("10.1.1.0/24") || e != api.OK {
		t.Error(got, e)
	}
	want := []api.Prefix{told("10.0.0.1/32"), told("10.0.0.2/31"), told("10.0.0.4/32")}
	if got, e := Spread(toldAddr("10.0.0.1"), toldAddr("10.0.0.4")); !slices.Equal(got, want) || e != api.OK {
		t.Error(got, e)
	}
}
