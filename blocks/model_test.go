package blocks

import (
	"math"
	"math/bits"
	"math/rand/v2"
	"slices"
	"testing"

	"platbook/addr"
	"platbook/api"
	"platbook/prefix"
)

// told is the prefix that a text tells.
func told(text string) api.Prefix {
	p, e := prefix.Parse(text)
	if e != api.OK {
		panic("no prefix: " + text)
	}
	return p
}

// kind is a prefix, the bits of its blocks, and how many blocks these are by
// the chapter's words.
type kind struct {
	text string
	bits int
	size int
}

// smallKinds are those of few blocks.
func smallKinds() []kind {
	return []kind{
		{"10.0.0.0/24", 24, 1},
		{"0.0.0.0/0", 0, 1},
		{"10.1.2.3/32", 32, 1},
		{"255.255.255.255/32", 32, 1},
		{"::/0", 0, 1},
		{"fd00::/64", 64, 1},
		{"::/128", 128, 1},
		{"ffff:ffff:ffff:ffff:ffff:ffff:ffff:ffff/128", 128, 1},
		{"10.0.0.0/23", 24, 2},
		{"0.0.0.0/0", 1, 2},
		{"::/0", 1, 2},
		{"fd00:0:0:2::/63", 64, 2},
		{"10.0.0.0/22", 24, 4},
		{"255.255.255.252/30", 32, 4},
		{"fd00::/62", 64, 4},
		{"fd00:0:0:8::/63", 66, 8},
		{"ffff:ffff:ffff:ffff:ffff:ffff:ffff:fff8/125", 128, 8},
		{"192.168.0.0/16", 22, 64},
		{"2001:db8::/57", 64, 128},
		{"2001:db8:0:0:ff00::/80", 87, 128},
	}
}

// largeKinds come to the most blocks that a set may have, or close to it.
func largeKinds() []kind {
	return []kind{
		{"10.0.0.0/9", 24, 32768},
		{"10.0.0.0/8", 24, 65536},
		{"0.0.0.0/0", 16, 65536},
		{"255.255.0.0/16", 32, 65536},
		{"fd00::/48", 64, 65536},
		{"2001:db8::/56", 72, 65536},
		{"::/0", 16, 65536},
		{"ffff:ffff:ffff:ffff:ffff:ffff:ffff:0/112", 128, 65536},
	}
}

func kinds() []kind {
	return append(smallKinds(), largeKinds()...)
}

// made is a new set of a kind.
func (k kind) made() *Set {
	s, e := New(told(k.text), k.bits)
	if e != api.OK {
		panic("no set: " + k.text)
	}
	return s
}

// row is the addresses of a prefix, by its first and its last one.
type row struct {
	v6          bool
	first, last api.Num
}

func widthOf(v6 bool) int {
	if v6 {
		return 128
	}
	return 32
}

// low is so many ones, at the low end.
func low(k int) api.Num {
	if k >= 64 {
		return api.Num{Hi: 1<<(k-64) - 1, Lo: ^uint64(0)}
	}
	return api.Num{Lo: 1<<k - 1}
}

func rowOf(p api.Prefix) row {
	behind := low(widthOf(p.Addr.V6) - p.Bits)
	return row{p.Addr.V6, p.Addr.N, api.Num{Hi: p.Addr.N.Hi | behind.Hi, Lo: p.Addr.N.Lo | behind.Lo}}
}

func less(a, b api.Num) bool {
	return a.Hi < b.Hi || a.Hi == b.Hi && a.Lo < b.Lo
}

func (r row) meets(o row) bool {
	return r.v6 == o.v6 && !less(r.last, o.first) && !less(o.last, r.first)
}

func plus(a, b api.Num) api.Num {
	lo, carry := bits.Add64(a.Lo, b.Lo, 0)
	hi, _ := bits.Add64(a.Hi, b.Hi, carry)
	return api.Num{Hi: hi, Lo: lo}
}

func minus(a, b api.Num) api.Num {
	lo, borrow := bits.Sub64(a.Lo, b.Lo, 0)
	hi, _ := bits.Sub64(a.Hi, b.Hi, borrow)
	return api.Num{Hi: hi, Lo: lo}
}

// around is the prefix of that many bits that has the address of a number.
func around(v6 bool, n api.Num, bits int) api.Prefix {
	behind := low(widthOf(v6) - bits)
	return api.Prefix{Addr: api.Addr{V6: v6, N: api.Num{Hi: n.Hi &^ behind.Hi, Lo: n.Lo &^ behind.Lo}}, Bits: bits}
}

// model is what a set is to be: all its blocks side by side, and a bool each.
type model struct {
	kind
	blocks []api.Prefix
	rows   []row
	used   []bool
	cursor int
}

// modelOf lays the blocks of a kind, each one behind the last address of the
// one ahead of it.
func modelOf(k kind) *model {
	m := &model{kind: k, used: make([]bool, k.size)}
	block := api.Prefix{Addr: told(k.text).Addr, Bits: k.bits}
	for range k.size {
		r := rowOf(block)
		m.blocks = append(m.blocks, block)
		m.rows = append(m.rows, r)
		block.Addr.N = plus(r.last, api.Num{Lo: 1})
	}
	if rowOf(told(k.text)).last != m.rows[k.size-1].last {
		panic("another number of blocks: " + k.text)
	}
	return m
}

// copy is another model of the same kind.
func (m *model) copy() *model {
	other := *m
	other.used = slices.Clone(m.used)
	return &other
}

// overlapping are the numbers of the blocks that have an address of q.
func (m *model) overlapping(q api.Prefix) []int {
	var list []int
	wanted := rowOf(q)
	for i, r := range m.rows {
		if r.meets(wanted) {
			list = append(list, i)
		}
	}
	return list
}

// turn is Occupy (to true), or Release.
func (m *model) turn(q api.Prefix, to bool) (int, api.Errno) {
	list := m.overlapping(q)
	if len(list) == 0 {
		return 0, api.ErrRange
	}
	turned := 0
	for _, i := range list {
		if m.used[i] != to {
			m.used[i] = to
			turned++
		}
	}
	return turned, api.OK
}

func (m *model) has(q api.Prefix) bool {
	return slices.ContainsFunc(m.overlapping(q), func(i int) bool { return m.used[i] })
}

// next goes through all blocks one by one.
func (m *model) next() (api.Prefix, api.Errno) {
	for k := range m.size {
		i := (m.cursor + k) % m.size
		if !m.used[i] {
			m.used[i] = true
			m.cursor = (i + 1) % m.size
			return m.blocks[i], api.OK
		}
	}
	return api.Prefix{}, api.ErrFull
}

func (m *model) usedOnes() []api.Prefix {
	var list []api.Prefix
	for i, used := range m.used {
		if used {
			list = append(list, m.blocks[i])
		}
	}
	return list
}

// hold holds a set against what it is to be, but for the cursor.
func hold(t *testing.T, s *Set, m *model) {
	t.Helper()
	if s.Prefix() != told(m.text) || s.Bits() != m.bits || s.Size() != m.size {
		t.Fatalf("%s by %d: Prefix() = %v, Bits() = %d, Size() = %d", m.text, m.bits, s.Prefix(), s.Bits(), s.Size())
	}
	used := m.usedOnes()
	if s.Left() != m.size-len(used) {
		t.Fatalf("%s by %d: Left() = %d with %d used", m.text, m.bits, s.Left(), len(used))
	}
	if !slices.Equal(s.Used(), used) {
		t.Fatalf("%s by %d: Used() = %v, want %v", m.text, m.bits, s.Used(), used)
	}
	for i, block := range m.blocks {
		if m.size > 1000 && !m.used[i] && i%97 > 3 {
			continue
		}
		if s.Has(block) != m.used[i] {
			t.Fatalf("%s by %d: Has(block %d) = %v", m.text, m.bits, i, s.Has(block))
		}
	}
}

func holdNext(t *testing.T, s *Set, m *model) {
	t.Helper()
	cursor := m.cursor
	want, wantErr := m.next()
	if p, e := s.Next(); p != want || e != wantErr {
		t.Fatalf("%s by %d: Next() = %v, %d with the cursor %d, want %v, %d", m.text, m.bits, p, e, cursor, want, wantErr)
	}
}

func holdOccupy(t *testing.T, s *Set, m *model, q api.Prefix) {
	t.Helper()
	want, wantErr := m.turn(q, true)
	if n, e := s.Occupy(q); n != want || e != wantErr {
		t.Fatalf("%s by %d: Occupy(%s) = %d, %d, want %d, %d", m.text, m.bits, prefix.Print(q), n, e, want, wantErr)
	}
}

func holdRelease(t *testing.T, s *Set, m *model, q api.Prefix) {
	t.Helper()
	want, wantErr := m.turn(q, false)
	if n, e := s.Release(q); n != want || e != wantErr {
		t.Fatalf("%s by %d: Release(%s) = %d, %d, want %d, %d", m.text, m.bits, prefix.Print(q), n, e, want, wantErr)
	}
}

func holdHas(t *testing.T, s *Set, m *model, q api.Prefix) {
	t.Helper()
	if got := s.Has(q); got != m.has(q) {
		t.Fatalf("%s by %d: Has(%s) = %v", m.text, m.bits, prefix.Print(q), got)
	}
}

// someUsed are models of a kind: none used, all, all but one, every second
// one, those at the ends, and some of no pattern, the same ones each time.
func someUsed(k kind) []*model {
	none := modelOf(k)
	all, butFirst, butLast, second, ends, few, many := none.copy(), none.copy(), none.copy(), none.copy(), none.copy(), none.copy(), none.copy()
	r := rand.New(rand.NewPCG(7, uint64(k.size)))
	for i := range k.size {
		all.used[i] = true
		butFirst.used[i] = i != 0
		butLast.used[i] = i != k.size-1
		second.used[i] = i%2 == 1
		ends.used[i] = i < 2 || i > k.size-3
		few.used[i] = r.IntN(10) == 0
		many.used[i] = r.IntN(10) != 0
	}
	return []*model{none, all, butFirst, butLast, second, ends, few, many}
}

// setOf is the set that a model tells, with the cursor at 0.
func setOf(m *model) *Set {
	s := m.made()
	for _, block := range m.usedOnes() {
		if n, e := s.Occupy(block); n != 1 || e != api.OK {
			panic("not to be occupied")
		}
	}
	return s
}

// some are numbers of blocks: at the ends, at those of words of bits, and
// between.
func some(size int) []int {
	list := []int{0, 1, 2, 3, 62, 63, 64, 65, 127, size / 2, size/2 + 1, size - 65, size - 64, size - 3, size - 2, size - 1}
	list = slices.DeleteFunc(list, func(i int) bool { return i < 0 || i >= size })
	slices.Sort(list)
	return slices.Compact(list)
}

// queries are prefixes of both families: wider than a kind's own, as wide,
// narrower than it, just blocks, narrower than these; within it, and beside it.
func queries(m *model) []api.Prefix {
	p := told(m.text)
	var list []api.Prefix
	for _, i := range some(m.size) {
		r := m.rows[i]
		half := low(max(widthOf(r.v6)-m.bits-1, 0))
		for _, n := range []api.Num{r.first, plus(r.first, half), r.last, plus(r.last, api.Num{Lo: 1}), minus(r.first, api.Num{Lo: 1})} {
			for _, bits := range []int{0, 1, p.Bits - 1, p.Bits, p.Bits + 1, (p.Bits + m.bits) / 2, m.bits - 1, m.bits, m.bits + 1, 32, widthOf(r.v6)} {
				list = append(list, fitting(r.v6, n, bits)...)
			}
		}
		list = append(list, fitting(!r.v6, r.first, m.bits)...)
		list = append(list, fitting(!r.v6, r.first, 0)...)
	}
	slices.SortFunc(list, prefix.Cmp)
	return slices.Compact(list)
}

// fitting is the prefix around an address, if there is such a one.
func fitting(v6 bool, n api.Num, bits int) []api.Prefix {
	if !v6 && (n.Hi != 0 || n.Lo >= 1<<32) || bits < 0 || bits > widthOf(v6) {
		return nil
	}
	return []api.Prefix{around(v6, n, bits)}
}

// wrongPrefixes may not be, whatever they are asked for.
func wrongPrefixes() []api.Prefix {
	list := []api.Prefix{
		{Addr: api.Addr{N: api.Num{Lo: 1 << 32}}, Bits: 0},
		{Addr: api.Addr{N: api.Num{Lo: 1 << 32}}, Bits: 24},
		{Addr: api.Addr{N: api.Num{Hi: 1}}, Bits: 24},
		{Addr: addr.V4(1), Bits: 0},
		{Addr: addr.V4(0x0a000001), Bits: 8},
		{Addr: addr.V4(0x0a000001), Bits: 24},
		{Addr: addr.V4(0x0a000001), Bits: 31},
		{Addr: addr.V4(1 << 31), Bits: 0},
		{Addr: addr.V6(0, 1), Bits: 0},
		{Addr: addr.V6(0, 1<<16), Bits: 64},
		{Addr: addr.V6(1, 0), Bits: 63},
		{Addr: addr.V6(0, 2), Bits: 126},
		{Addr: addr.V6(1<<63, 0), Bits: 0},
	}
	for _, a := range []api.Addr{addr.V4(0), addr.V4(0x0a000000), addr.V6(0, 0), addr.V6(0xfd<<56, 0)} {
		for _, bits := range []int{math.MinInt, -128, -2, -1, addr.Width(a) + 1, 129, 1 << 32, math.MaxInt} {
			list = append(list, api.Prefix{Addr: a, Bits: bits})
		}
	}
	return list
}

// wrongQueries may not be, though they are like a kind's own; and all of wrongPrefixes.
func wrongQueries(k kind) []api.Prefix {
	p := told(k.text)
	list := wrongPrefixes()
	for _, bits := range []int{-1, widthOf(p.Addr.V6) + 1} {
		list = append(list, api.Prefix{Addr: p.Addr, Bits: bits})
	}
	odd := rowOf(p).last
	for bits := range widthOf(p.Addr.V6) {
		if odd.Lo&1 == 1 {
			list = append(list, api.Prefix{Addr: api.Addr{V6: p.Addr.V6, N: odd}, Bits: bits})
		}
	}
	return append(list, api.Prefix{Addr: api.Addr{V6: p.Addr.V6, N: api.Num{Hi: p.Addr.N.Hi, Lo: p.Addr.N.Lo | 1}}, Bits: 3})
}
