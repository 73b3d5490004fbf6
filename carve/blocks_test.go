package carve

import (
	"math/big"
	"testing"

	"platbook/addr"
	"platbook/api"
	"platbook/num"
	"platbook/prefix"
)

// P4.1

func TestBlocks(t *testing.T) {
	tests := []struct {
		p     string
		bits  int
		count string
		fits  bool
	}{
		{"10.0.0.0/8", 8, "1", true},
		{"10.0.0.0/8", 9, "2", true},
		{"10.0.0.0/8", 24, "65536", true},
		{"10.0.0.0/8", 32, "16777216", true},
		{"0.0.0.0/0", 0, "1", true},
		{"0.0.0.0/0", 32, "4294967296", true},
		{"1.2.3.4/32", 32, "1", true},
		{"::/0", 0, "1", true},
		{"::/0", 63, "9223372036854775808", true},
		{"::/0", 64, "18446744073709551616", true},
		{"::/0", 127, "170141183460469231731687303715884105728", true},
		{"::/0", 128, "0", false},
		{"::/1", 128, "170141183460469231731687303715884105728", true},
		{"8000::/1", 128, "170141183460469231731687303715884105728", true},
		{"2001:db8::/32", 32, "1", true},
		{"2001:db8::/32", 64, "4294967296", true},
		{"2001:db8::/32", 96, "18446744073709551616", true},
		{"2001:db8::/32", 128, "79228162514264337593543950336", true},
		{"::1/128", 128, "1", true},
	}
	for _, c := range tests {
		if count, fits, e := Blocks(told(c.p), c.bits); count != toldNum(c.count) || fits != c.fits || e != api.OK {
			t.Errorf("Blocks(%s, %d) = %v, %v, %d", c.p, c.bits, count, fits, e)
		}
	}
}

func TestBlocksOfAllBits(t *testing.T) {
	for _, a := range someAddrs() {
		for own := range addr.Width(a) + 1 {
			for bits := own; bits <= addr.Width(a); bits++ {
				count, fits, e := Blocks(cut(a, own), bits)
				if bits-own == 128 {
					if count != (api.Num{}) || fits || e != api.OK {
						t.Errorf("Blocks(%v/%d, %d) = %v, %v, %d", a, own, bits, count, fits, e)
					}
				} else if toBig(count).Cmp(power(bits-own)) != 0 || !fits || e != api.OK {
					t.Errorf("Blocks(%v/%d, %d) = %v, %v, %d", a, own, bits, count, fits, e)
				}
			}
		}
	}
}

func TestBlocksOfWhatMayNotBe(t *testing.T) {
	hold := func(p api.Prefix, bits int) {
		if count, fits, e := Blocks(p, bits); count != (api.Num{}) || fits || e != api.ErrArg {
			t.Errorf("Blocks(%v, %d) = %v, %v, %d", p, bits, count, fits, e)
		}
	}
	forEachWrongCut(hold)
}

// forEachWrongCut hands on prefixes that may not be with bits of any kind, and
// those that may be with bits that they have no blocks of.
func forEachWrongCut(each func(p api.Prefix, bits int)) {
	for _, p := range wrongPrefixes() {
		for _, bits := range append(anyBits(), p.Bits) {
			each(p, bits)
		}
	}
	for _, p := range somePrefixes() {
		for _, bits := range wrongBits(p) {
			each(p, bits)
		}
	}
}

func TestBlock(t *testing.T) {
	tests := []struct {
		p    string
		bits int
		i    string
		want string
	}{
		{"10.0.0.0/8", 24, "0", "10.0.0.0/24"},
		{"10.0.0.0/8", 24, "1", "10.0.1.0/24"},
		{"10.0.0.0/8", 24, "257", "10.1.1.0/24"},
		{"10.0.0.0/8", 24, "65535", "10.255.255.0/24"},
		{"10.0.0.0/8", 8, "0", "10.0.0.0/8"},
		{"10.0.0.0/8", 32, "16777215", "10.255.255.255/32"},
		{"0.0.0.0/0", 0, "0", "0.0.0.0/0"},
		{"0.0.0.0/0", 1, "1", "128.0.0.0/1"},
		{"0.0.0.0/0", 32, "4294967295", "255.255.255.255/32"},
		{"1.2.3.4/32", 32, "0", "1.2.3.4/32"},
		{"255.255.255.255/32", 32, "0", "255.255.255.255/32"},
		{"::/0", 0, "0", "::/0"},
		{"::/0", 64, "1", "0:0:0:1::/64"},
		{"::/0", 64, "18446744073709551615", "ffff:ffff:ffff:ffff::/64"},
		{"::/0", 65, "3", "0:0:0:1:8000::/65"},
		{"::/0", 127, "170141183460469231731687303715884105727", "ffff:ffff:ffff:ffff:ffff:ffff:ffff:fffe/127"},
		{"::/0", 128, "0", "::/128"},
		{"::/0", 128, "340282366920938463463374607431768211455", "ffff:ffff:ffff:ffff:ffff:ffff:ffff:ffff/128"},
		{"2001:db8::/32", 64, "65538", "2001:db8:1:2::/64"},
		{"2001:db8::/32", 64, "4294967295", "2001:db8:ffff:ffff::/64"},
		{"2001:db8::/64", 128, "18446744073709551615", "2001:db8::ffff:ffff:ffff:ffff/128"},
		{"::1/128", 128, "0", "::1/128"},
	}
	for _, c := range tests {
		if got, e := Block(told(c.p), c.bits, toldNum(c.i)); got != told(c.want) || e != api.OK {
			t.Errorf("Block(%s, %d, %s) = %v, %d", c.p, c.bits, c.i, got, e)
		}
	}
}

// wantBlock begins i blocks behind p's first address.
func wantBlock(p api.Prefix, bits int, i api.Num) api.Prefix {
	size := power(addr.Width(p.Addr) - bits)
	first := new(big.Int).Add(toBig(p.Addr.N), size.Mul(size, toBig(i)))
	return api.Prefix{Addr: api.Addr{V6: p.Addr.V6, N: fromBig(first)}, Bits: bits}
}

func TestBlockAgainstBig(t *testing.T) {
	forEachCut(func(p api.Prefix, bits int) {
		for _, i := range someNumbers(bits - p.Bits) {
			if got, e := Block(p, bits, i); got != wantBlock(p, bits, i) || e != api.OK {
				t.Errorf("Block(%v, %d, %v) = %v, %d", p, bits, i, got, e)
			}
		}
	})
}

func TestBlockTooGreat(t *testing.T) {
	forEachCut(func(p api.Prefix, bits int) {
		for _, i := range tooGreat(bits - p.Bits) {
			if got, e := Block(p, bits, i); got != (api.Prefix{}) || e != api.ErrRange {
				t.Errorf("Block(%v, %d, %v) = %v, %d", p, bits, i, got, e)
			}
		}
	})
}

func TestBlockOfWhatMayNotBe(t *testing.T) {
	forEachWrongCut(func(p api.Prefix, bits int) {
		for _, i := range []api.Num{{}, one, allOnes} {
			if got, e := Block(p, bits, i); got != (api.Prefix{}) || e != api.ErrArg {
				t.Errorf("Block(%v, %d, %v) = %v, %d", p, bits, i, got, e)
			}
		}
	})
}

func TestIndex(t *testing.T) {
	tests := []struct{ p, q, want string }{
		{"10.0.0.0/8", "10.1.1.0/24", "257"},
		{"10.0.0.0/8", "10.0.0.0/8", "0"},
		{"10.0.0.0/8", "10.0.0.0/32", "0"},
		{"10.0.0.0/8", "10.128.0.0/9", "1"},
		{"10.0.0.0/8", "10.255.255.255/32", "16777215"},
		{"0.0.0.0/0", "0.0.0.0/0", "0"},
		{"0.0.0.0/0", "255.255.255.255/32", "4294967295"},
		{"1.2.3.4/32", "1.2.3.4/32", "0"},
		{"::/0", "::/0", "0"},
		{"::/0", "8000::/1", "1"},
		{"::/0", "ffff:ffff:ffff:ffff::/64", "18446744073709551615"},
		{"::/0", "0:0:0:1:8000::/65", "3"},
		{"::/0", "ffff:ffff:ffff:ffff:ffff:ffff:ffff:ffff/128", "340282366920938463463374607431768211455"},
		{"2001:db8::/32", "2001:db8:1:2::/64", "65538"},
		{"::1/128", "::1/128", "0"},
	}
	for _, c := range tests {
		if got, e := Index(told(c.p), told(c.q)); got != toldNum(c.want) || e != api.OK {
			t.Errorf("Index(%s, %s) = %v, %d", c.p, c.q, got, e)
		}
	}
}

func TestIndexAgainstBig(t *testing.T) {
	forEachCut(func(p api.Prefix, bits int) {
		for _, i := range someNumbers(bits - p.Bits) {
			if got, e := Index(p, wantBlock(p, bits, i)); got != i || e != api.OK {
				t.Errorf("Index(%v, %v) = %v, %d, want %v", p, wantBlock(p, bits, i), got, e, i)
			}
		}
	})
}

func TestIndexOfWhatIsNotWithin(t *testing.T) {
	for _, p := range somePrefixes() {
		for _, q := range around(p) {
			if got, e := Index(p, q); got != (api.Num{}) || e != api.ErrRange {
				t.Errorf("Index(%v, %v) = %v, %d", p, q, got, e)
			}
		}
	}
	tests := []struct{ p, q string }{
		{"10.0.0.0/8", "10.0.0.0/7"},
		{"10.0.0.0/8", "0.0.0.0/0"},
		{"10.0.0.0/8", "9.255.255.0/24"},
		{"10.0.0.0/8", "11.0.0.0/24"},
		{"10.0.0.0/8", "::a00:0/104"},
		{"::a00:0/104", "10.0.0.0/8"},
		{"::/0", "0.0.0.0/0"},
		{"0.0.0.0/0", "::/0"},
		{"0.0.0.0/0", "::/96"},
		{"::/0", "10.0.0.0/8"},
	}
	for _, c := range tests {
		if got, e := Index(told(c.p), told(c.q)); got != (api.Num{}) || e != api.ErrRange {
			t.Errorf("Index(%s, %s) = %v, %d", c.p, c.q, got, e)
		}
	}
}

func TestIndexOfWhatMayNotBe(t *testing.T) {
	for _, wrong := range wrongPrefixes() {
		for _, other := range append(somePrefixes(), wrong) {
			if got, e := Index(wrong, other); got != (api.Num{}) || e != api.ErrArg {
				t.Fatalf("Index(%v, %v) = %v, %d", wrong, other, got, e)
			}
			if got, e := Index(other, wrong); got != (api.Num{}) || e != api.ErrArg {
				t.Fatalf("Index(%v, %v) = %v, %d", other, wrong, got, e)
			}
		}
	}
}

// P4.5

func TestIndexIsTheWayBackOfBlock(t *testing.T) {
	forEachCut(func(p api.Prefix, bits int) {
		for _, i := range someNumbers(bits - p.Bits) {
			q, e := Block(p, bits, i)
			if e != api.OK {
				t.Fatalf("Block(%v, %d, %v): %d", p, bits, i, e)
			}
			if back, e := Index(p, q); back != i || e != api.OK {
				t.Errorf("Index(%v, Block(.., %d, %v)) = %v, %d", p, bits, i, back, e)
			}
		}
	})
}

func TestBlockIsTheWayBackOfIndex(t *testing.T) {
	for _, small := range smallOnes() {
		for _, p := range below(small) {
			for _, q := range below(p) {
				i, e := Index(p, q)
				if e != api.OK {
					t.Fatalf("Index(%v, %v): %d", p, q, e)
				}
				if back, e := Block(p, q.Bits, i); back != q || e != api.OK {
					t.Errorf("Block(%v, %d, Index of %v) = %v, %d", p, q.Bits, q, back, e)
				}
			}
		}
	}
}

// TestBlocksOfSmallOnes goes through all blocks of all prefixes that lie within
// small ones: each one is where halving puts it, and there is none behind.
func TestBlocksOfSmallOnes(t *testing.T) {
	for _, small := range smallOnes() {
		for _, p := range below(small) {
			for bits := p.Bits; bits <= addr.Width(p.Addr); bits++ {
				want := blocksOf(p, bits)
				if count, fits, e := Blocks(p, bits); count != num.Of(uint64(len(want))) || !fits || e != api.OK {
					t.Errorf("Blocks(%v, %d) = %v, %v, %d, want %d", p, bits, count, fits, e, len(want))
				}
				for i, q := range want {
					if got, e := Block(p, bits, num.Of(uint64(i))); got != q || e != api.OK {
						t.Errorf("Block(%v, %d, %d) = %v, %d, want %v", p, bits, i, got, e, q)
					}
				}
				if got, e := Block(p, bits, num.Of(uint64(len(want)))); got != (api.Prefix{}) || e != api.ErrRange {
					t.Errorf("Block(%v, %d, %d) = %v, %d", p, bits, len(want), got, e)
				}
			}
		}
	}
}

// TestEachAddressIsInJustOneBlock counts the blocks of small prefixes that have
// an address.
func TestEachAddressIsInJustOneBlock(t *testing.T) {
	for _, p := range smallOnes() {
		for bits := p.Bits; bits <= addr.Width(p.Addr); bits++ {
			for _, a := range addrsOf(p) {
				having := 0
				for i := range uint64(1) << (bits - p.Bits) {
					if q, e := Block(p, bits, num.Of(i)); e == api.OK && prefix.Has(q, a) {
						having++
					}
				}
				if having != 1 {
					t.Errorf("%d blocks of %v of %d bits have %v", having, p, bits, a)
				}
			}
		}
	}
}

// TestBlocksOfWideOnesDoNotOverlap: each one ends just ahead of the next one.
func TestBlocksOfWideOnesDoNotOverlap(t *testing.T) {
	forEachCut(func(p api.Prefix, bits int) {
		for _, i := range someNumbers(bits - p.Bits) {
			q, _ := Block(p, bits, i)
			next, _ := num.Add(i, one)
			r, e := Block(p, bits, next)
			if e != api.OK || next == (api.Num{}) {
				if prefix.Last(q) != prefix.Last(p) {
					t.Errorf("Block(%v, %d, %v) = %v is the last one", p, bits, i, q)
				}
				continue
			}
			if behind, e := addr.Plus(prefix.Last(q), one); behind != r.Addr || e != api.OK || prefix.Overlap(q, r) {
				t.Errorf("Block(%v, %d, %v) = %v, the next one is %v", p, bits, i, q, r)
			}
		}
	})
}
