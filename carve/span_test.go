package carve

import (
	"slices"
	"testing"

	"platbook/addr"
	"platbook/api"
	"platbook/num"
	"platbook/prefix"
)

// P4.3

func TestSpan(t *testing.T) {
	tests := []struct {
		p           string
		bits        int
		q           string
		first, last string
	}{
		// Within one block.
		{"10.0.0.0/8", 24, "10.1.1.7/32", "257", "257"},
		{"10.0.0.0/8", 24, "10.1.1.128/25", "257", "257"},
		{"10.0.0.0/8", 24, "10.1.1.0/24", "257", "257"},
		{"10.0.0.0/8", 8, "10.1.1.0/24", "0", "0"},
		{"2001:db8::/32", 64, "2001:db8:1:2:8000::/65", "65538", "65538"},
		{"2001:db8::/32", 64, "2001:db8:1:2::/64", "65538", "65538"},
		// Wider than a block.
		{"10.0.0.0/8", 24, "10.1.2.0/23", "258", "259"},
		{"10.0.0.0/8", 24, "10.1.0.0/16", "256", "511"},
		{"10.0.0.0/8", 24, "10.128.0.0/9", "32768", "65535"},
		{"10.0.0.0/8", 32, "10.1.0.0/16", "65536", "131071"},
		{"2001:db8::/32", 64, "2001:db8:1::/48", "65536", "131071"},
		{"::/0", 66, "0:0:0:1::/64", "4", "7"},
		// As wide as the whole, and wider.
		{"10.0.0.0/8", 24, "10.0.0.0/8", "0", "65535"},
		{"10.0.0.0/8", 24, "10.0.0.0/7", "0", "65535"},
		{"11.0.0.0/8", 24, "10.0.0.0/7", "0", "65535"},
		{"10.0.0.0/8", 24, "0.0.0.0/0", "0", "65535"},
		{"10.0.0.0/8", 8, "0.0.0.0/0", "0", "0"},
		{"1.2.3.4/32", 32, "0.0.0.0/0", "0", "0"},
		{"255.255.255.255/32", 32, "255.255.255.255/32", "0", "0"},
		{"0.0.0.0/0", 0, "0.0.0.0/0", "0", "0"},
		{"0.0.0.0/0", 0, "1.2.3.4/32", "0", "0"},
		{"0.0.0.0/0", 32, "0.0.0.0/0", "0", "4294967295"},
		{"::/0", 0, "::/0", "0", "0"},
		{"::/0", 0, "ffff::1/128", "0", "0"},
		{"::/0", 64, "::/0", "0", "18446744073709551615"},
		{"::/0", 128, "::/0", "0", "340282366920938463463374607431768211455"},
		{"::/0", 128, "8000::/1", "170141183460469231731687303715884105728", "340282366920938463463374607431768211455"},
		{"::/0", 128, "ffff:ffff:ffff:ffff:ffff:ffff:ffff:ffff/128", "340282366920938463463374607431768211455", "340282366920938463463374607431768211455"},
		{"2001:db8::/32", 96, "2001::/16", "0", "18446744073709551615"},
	}
	for _, c := range tests {
		first, last, e := Span(told(c.p), c.bits, told(c.q))
		if first != toldNum(c.first) || last != toldNum(c.last) || e != api.OK {
			t.Errorf("Span(%s, %d, %s) = %v, %v, %d", c.p, c.bits, c.q, first, last, e)
		}
	}
}

// holdByBlocks looks for the first and the last one of all blocks of a small p.
func holdByBlocks(t *testing.T, p api.Prefix, bits int, q api.Prefix) {
	overlaps := func(block api.Prefix) bool { return prefix.Overlap(block, q) }
	blocks := blocksOf(p, bits)
	from := slices.IndexFunc(blocks, overlaps)
	first, last, e := Span(p, bits, q)
	if from < 0 {
		if first != (api.Num{}) || last != (api.Num{}) || e != api.ErrRange {
			t.Errorf("Span(%v, %d, %v) = %v, %v, %d, want none", p, bits, q, first, last, e)
		}
		return
	}
	to := len(blocks) - 1
	for !overlaps(blocks[to]) {
		to--
	}
	if first != num.Of(uint64(from)) || last != num.Of(uint64(to)) || e != api.OK {
		t.Errorf("Span(%v, %d, %v) = %v, %v, %d, want %d, %d", p, bits, q, first, last, e, from, to)
	}
}

func TestSpanOfSmallOnes(t *testing.T) {
	for _, small := range smallOnes() {
		others := append(below(small), around(small)...)
		for _, p := range below(small) {
			for bits := p.Bits; bits <= addr.Width(p.Addr); bits++ {
				for _, q := range others {
					holdByBlocks(t, p, bits, q)
				}
			}
		}
	}
}

// TestSpanOfWideOnes looks at the blocks on both sides of each end.
func TestSpanOfWideOnes(t *testing.T) {
	forEachCut(func(p api.Prefix, bits int) {
		for _, q := range append(around(p), p, cut(p.Addr, bits), cut(prefix.Last(p), bits), cut(prefix.Last(p), addr.Width(p.Addr))) {
			first, last, e := Span(p, bits, q)
			if !prefix.Overlap(p, q) {
				if first != (api.Num{}) || last != (api.Num{}) || e != api.ErrRange {
					t.Errorf("Span(%v, %d, %v) = %v, %v, %d, want none", p, bits, q, first, last, e)
				}
				continue
			}
			ahead, hasAhead := num.Sub(first, one)
			behind, hasBehind := num.Add(last, one)
			if e != api.OK || !overlapsBlock(p, bits, first, q) || !overlapsBlock(p, bits, last, q) ||
				hasAhead && overlapsBlock(p, bits, ahead, q) || hasBehind && overlapsBlock(p, bits, behind, q) {
				t.Errorf("Span(%v, %d, %v) = %v, %v, %d", p, bits, q, first, last, e)
			}
		}
	})
}

// overlapsBlock is false where there are not so many.
func overlapsBlock(p api.Prefix, bits int, i api.Num, q api.Prefix) bool {
	block, e := Block(p, bits, i)
	return e == api.OK && prefix.Overlap(block, q)
}

func TestSpanOfNone(t *testing.T) {
	tests := []struct {
		p    string
		bits int
		q    string
	}{
		{"10.0.0.0/8", 24, "9.255.255.0/24"},
		{"10.0.0.0/8", 24, "11.0.0.0/24"},
		{"10.0.0.0/8", 24, "11.0.0.0/8"},
		{"10.0.0.0/8", 24, "8.0.0.0/7"},
		{"10.0.0.0/8", 8, "128.0.0.0/1"},
		{"10.0.0.0/8", 24, "::/0"},
		{"10.0.0.0/8", 24, "::a00:0/104"},
		{"0.0.0.0/0", 0, "::/0"},
		{"::/0", 0, "0.0.0.0/0"},
		{"::/0", 128, "1.2.3.4/32"},
		{"::1/128", 128, "::/128"},
		{"1.2.3.4/32", 32, "1.2.3.5/32"},
	}
	for _, c := range tests {
		if first, last, e := Span(told(c.p), c.bits, told(c.q)); first != (api.Num{}) || last != (api.Num{}) || e != api.ErrRange {
			t.Errorf("Span(%s, %d, %s) = %v, %v, %d", c.p, c.bits, c.q, first, last, e)
		}
	}
}

func TestSpanOfWhatMayNotBe(t *testing.T) {
	hold := func(p api.Prefix, bits int, q api.Prefix) {
		if first, last, e := Span(p, bits, q); first != (api.Num{}) || last != (api.Num{}) || e != api.ErrArg {
			t.Errorf("Span(%v, %d, %v) = %v, %v, %d", p, bits, q, first, last, e)
		}
	}
	// Some of these lie elsewhere: what may not be is told ahead of that.
	others := []api.Prefix{told("0.0.0.0/0"), told("10.0.0.0/8"), told("200.1.2.3/32"), told("::/0"), told("::1/128"), {Bits: -1}, {Addr: addr.V4(1)}}
	forEachWrongCut(func(p api.Prefix, bits int) {
		for _, q := range append(others, p) {
			hold(p, bits, q)
		}
	})
	for _, text := range []string{"0.0.0.0/0", "10.0.0.0/8", "1.2.3.4/32", "::/0", "2001:db8::/32", "::1/128"} {
		p := told(text)
		for _, q := range wrongPrefixes() {
			hold(p, p.Bits, q)
			hold(p, addr.Width(p.Addr), q)
		}
	}
}
