package pool

import (
	"encoding/binary"
	"math"
	"math/rand/v2"
	"slices"
	"testing"

	"platbook/addr"
	"platbook/api"
	"platbook/prefix"
)

const top = math.MaxUint64

// told is the prefix that a text tells.
func told(text string) api.Prefix {
	p, e := prefix.Parse(text)
	if e != api.OK {
		panic("no prefix: " + text)
	}
	return p
}

func toldAddr(text string) api.Addr {
	a, e := addr.Parse(text)
	if e != api.OK {
		panic("no address: " + text)
	}
	return a
}

// made is a pool of the prefix that a text tells.
func made(text string) *Pool {
	x, e := New(told(text))
	if e != api.OK {
		panic("no pool: " + text)
	}
	return x
}

// kind is a prefix, and what the chapter's words say of a pool of it.
type kind struct {
	text      string
	size      int
	lastKept  bool // whether the last one that it looks after is
	mayBeHeld int  // how many may be given at all
}

// smallKinds are those of few addresses.
func smallKinds() []kind {
	return []kind{
		{"10.0.0.0/30", 4, true, 2},
		{"0.0.0.0/30", 4, true, 2},
		{"255.255.255.252/30", 4, true, 2},
		{"10.0.0.0/29", 8, true, 6},
		{"10.96.0.64/26", 64, true, 62},
		{"10.96.0.128/25", 128, true, 126},
		{"fd00::/126", 4, false, 3},
		{"::/126", 4, false, 3},
		{"ffff:ffff:ffff:ffff:ffff:ffff:ffff:fffc/126", 4, false, 3},
		{"::ffff:a00:0/125", 8, false, 7},
		{"::ffff:ffff:ffff:ffc0/122", 64, false, 63},
		{"0:0:0:1::/121", 128, false, 127},
	}
}

// kinds are small ones, and those where the number of addresses comes to, or
// is beyond, what a pool looks after.
func kinds() []kind {
	return append(smallKinds(), []kind{
		{"10.96.0.0/24", 256, true, 254},
		{"172.16.128.0/17", 32768, true, 32766},
		{"172.16.0.0/16", 65536, true, 65534},
		{"255.255.0.0/16", 65536, true, 65534},
		{"172.16.0.0/15", 65536, false, 65535},
		{"255.254.0.0/15", 65536, false, 65535},
		{"0.0.0.0/0", 65536, false, 65535},
		{"2001:db8::/113", 32768, false, 32767},
		{"2001:db8::/112", 65536, false, 65535},
		{"ffff:ffff:ffff:ffff:ffff:ffff:ffff:0/112", 65536, false, 65535},
		{"2001:db8::/111", 65536, false, 65535},
		{"fd00::/64", 65536, false, 65535},
		{"fd00::/63", 65536, false, 65535},
		{"8000::/1", 65536, false, 65535},
		{"::/0", 65536, false, 65535},
	}...)
}

// model is what a pool is to be, as a row of bools by numbers.
type model struct {
	kind
	first api.Addr
	used  []bool
}

func modelOf(k kind) *model {
	return &model{kind: k, first: told(k.text).Addr, used: make([]bool, k.size)}
}

// bytesOf are the bytes of a kind without used ones, whatever its text.
func bytesOf(text string, size int) string {
	m := model{kind: kind{text: text, size: size}, used: make([]bool, size)}
	return m.bytes()
}

// some are numbers of a pool of that size: at its ends, at those of words of
// bits, and between.
func some(size int) []int {
	list := []int{0, 1, 2, 3, 5, 7, 8, 62, 63, 64, 65, 127, 128, 255, 256, size / 2, size/2 + 1, size - 65, size - 64, size - 63, size - 3, size - 2, size - 1}
	list = slices.DeleteFunc(list, func(i int) bool { return i < 0 || i >= size })
	slices.Sort(list)
	return slices.Compact(list)
}

func (m *model) keeps(i int) bool {
	return i == 0 || m.lastKept && i == m.size-1
}

// at is the address of a number. The places of numbers below the size are
// noughts in the prefix, so nothing is carried.
func (m *model) at(i int) api.Addr {
	return api.Addr{V6: m.first.V6, N: api.Num{Hi: m.first.N.Hi, Lo: m.first.N.Lo + uint64(i)}}
}

func (m *model) usedOnes() []api.Addr {
	var list []api.Addr
	for i, used := range m.used {
		if used {
			list = append(list, m.at(i))
		}
	}
	return list
}

// next is the first that may be given, going through all numbers one by one.
func (m *model) next(offset int) (int, bool) {
	if offset < 0 {
		offset = 0
	}
	for k := range m.size {
		i := (offset%m.size + k) % m.size
		if !m.used[i] && !m.keeps(i) {
			return i, true
		}
	}
	return 0, false
}

// bytes are laid as the chapters say.
func (m *model) bytes() string {
	list := append([]byte(m.text), 0)
	list = binary.BigEndian.AppendUint32(list, uint32(m.size))
	for i, used := range m.used {
		if i%8 == 0 {
			list = append(list, 0)
		}
		if used {
			list[len(list)-1] |= 1 << (i % 8)
		}
	}
	return string(list)
}

// hold holds a pool against what it is to be.
func hold(t *testing.T, x *Pool, m *model) {
	t.Helper()
	if x.Prefix() != told(m.text) || x.Size() != m.size {
		t.Fatalf("%s: Prefix() = %v, Size() = %d", m.text, x.Prefix(), x.Size())
	}
	used := m.usedOnes()
	if x.Left() != m.mayBeHeld-len(used) {
		t.Fatalf("%s: Left() = %d with %d used", m.text, x.Left(), len(used))
	}
	if !slices.Equal(x.Used(), used) {
		t.Fatalf("%s: Used() = %v, want %v", m.text, x.Used(), used)
	}
	for i := range m.used {
		if m.size > 1000 && !m.used[i] && i%97 > 3 {
			continue
		}
		if x.Has(m.at(i)) != m.used[i] {
			t.Fatalf("%s: Has(%d) = %v", m.text, i, x.Has(m.at(i)))
		}
	}
}

// someUsed are models of a kind: none used, all, every second one, and some of
// no pattern, the same ones each time.
func someUsed(k kind) []*model {
	none, all, second, ends := modelOf(k), modelOf(k), modelOf(k), modelOf(k)
	few, many := modelOf(k), modelOf(k)
	r := rand.New(rand.NewPCG(6, uint64(k.size)))
	for i := range k.size {
		if none.keeps(i) {
			continue
		}
		all.used[i] = true
		second.used[i] = i%2 == 1
		ends.used[i] = i < 2 || i > k.size-3
		few.used[i] = r.IntN(10) == 0
		many.used[i] = r.IntN(10) != 0
	}
	return []*model{none, all, second, ends, few, many}
}

// poolOf is the pool that a model tells, by Take alone.
func poolOf(m *model) *Pool {
	x := made(m.text)
	for i, used := range m.used {
		if used && x.Take(m.at(i)) != api.OK {
			panic("not to be taken")
		}
	}
	return x
}

// strangers are addresses that no pool of that kind looks after.
func strangers(k kind) []api.Addr {
	p := told(k.text)
	var list []api.Addr
	// Beyond those that it looks after, within the prefix or not; ahead of it.
	for _, far := range []uint64{uint64(k.size), uint64(k.size) + 1, 1 << 16, 1<<16 + 1, 1 << 32, 1<<32 + 1, 1 << 33, 1 << 63} {
		list = append(list, api.Addr{V6: p.Addr.V6, N: api.Num{Hi: p.Addr.N.Hi, Lo: p.Addr.N.Lo + far}})
	}
	list = append(list, api.Addr{V6: p.Addr.V6, N: api.Num{Hi: p.Addr.N.Hi, Lo: p.Addr.N.Lo - 1}})
	// With the same lower word, and another upper one.
	for _, i := range some(k.size) {
		for _, hi := range []uint64{p.Addr.N.Hi ^ 1, p.Addr.N.Hi ^ 1<<63, ^p.Addr.N.Hi} {
			list = append(list, api.Addr{V6: p.Addr.V6, N: api.Num{Hi: hi, Lo: p.Addr.N.Lo + uint64(i)}})
		}
	}
	// Of the other family, and those that may not be.
	for _, i := range some(k.size) {
		list = append(list, api.Addr{V6: !p.Addr.V6, N: api.Num{Hi: p.Addr.N.Hi, Lo: p.Addr.N.Lo + uint64(i)}})
		list = append(list, api.Addr{V6: !p.Addr.V6, N: api.Num{Lo: uint64(uint32(p.Addr.N.Lo)) + uint64(i)}})
	}
	return append(list,
		api.Addr{N: api.Num{Lo: 1<<32 + 5}}, api.Addr{N: api.Num{Hi: 1, Lo: 5}}, api.Addr{N: api.Num{Hi: top, Lo: top}},
		prefix.Last(api.Prefix{Addr: addr.V4(0)}), prefix.Last(api.Prefix{Addr: addr.V6(0, 0)}))
}

// strangersOf leaves out those of strangers that are looked after all the same.
func strangersOf(k kind) []api.Addr {
	m := modelOf(k)
	return slices.DeleteFunc(strangers(k), func(a api.Addr) bool {
		return a.V6 == m.at(0).V6 && a.N.Hi == m.at(0).N.Hi && a.N.Lo >= m.at(0).N.Lo && a.N.Lo <= m.at(k.size-1).N.Lo
	})
}

// A nil pool, all promises.

func TestNilPool(t *testing.T) {
	var x *Pool
	if x.Prefix() != (api.Prefix{}) || x.Size() != 0 || x.Left() != 0 || len(x.Used()) != 0 || x.Copy() != nil || x.Bytes() != "" {
		t.Error(x.Prefix(), x.Size(), x.Left(), x.Used(), x.Copy(), x.Bytes())
	}
	for _, a := range []api.Addr{{}, toldAddr("10.0.0.1"), toldAddr("::"), toldAddr("fd00::1"), {N: api.Num{Lo: 1 << 32}}, {N: api.Num{Hi: top, Lo: top}}} {
		if x.Has(a) || x.May(a) != api.ErrNil || x.Take(a) != api.ErrNil || x.Free(a) != api.ErrNil {
			t.Errorf("of %v: %v, %d, %d, %d", a, x.Has(a), x.May(a), x.Take(a), x.Free(a))
		}
	}
	for _, offset := range []int{math.MinInt, -1, 0, 1, 65536, math.MaxInt} {
		if a, e := x.Next(offset); a != (api.Addr{}) || e != api.ErrNil {
			t.Errorf("Next(%d) = %v, %d", offset, a, e)
		}
	}
}

// P6.1

func TestNew(t *testing.T) {
	for _, k := range kinds() {
		x, e := New(told(k.text))
		if x == nil || e != api.OK {
			t.Fatalf("New(%s) = %v, %d", k.text, x, e)
		}
		hold(t, x, modelOf(k))
	}
}

func TestNewOfTooFewAddresses(t *testing.T) {
	for _, text := range []string{
		"10.0.0.0/31", "10.0.0.0/32", "0.0.0.0/31", "0.0.0.0/32", "255.255.255.254/31", "255.255.255.255/32",
		"::/127", "::/128", "::1/128", "fd00::2/127", "ffff:ffff:ffff:ffff:ffff:ffff:ffff:ffff/128",
	} {
		if x, e := New(told(text)); x != nil || e != api.ErrArg {
			t.Errorf("New(%s) = %v, %d", text, x, e)
		}
	}
}

func TestNewOfWhatMayNotBe(t *testing.T) {
	list := []api.Prefix{
		{Addr: api.Addr{N: api.Num{Lo: 1 << 32}}, Bits: 0},
		{Addr: api.Addr{N: api.Num{Lo: 1 << 32}}, Bits: 24},
		{Addr: api.Addr{N: api.Num{Hi: 1}}, Bits: 24},
		{Addr: addr.V4(1), Bits: 0},
		{Addr: addr.V4(0x0a000001), Bits: 8},
		{Addr: addr.V4(0x0a000001), Bits: 24},
		{Addr: addr.V4(0x0a000002), Bits: 30},
		{Addr: addr.V6(0, 1), Bits: 0},
		{Addr: addr.V6(0, 1<<16), Bits: 64},
		{Addr: addr.V6(1, 0), Bits: 63},
		{Addr: addr.V6(0, 2), Bits: 126},
	}
	for _, a := range []api.Addr{addr.V4(0), addr.V4(0x0a000000), addr.V6(0, 0), addr.V6(0xfd<<56, 0)} {
		for _, bits := range []int{math.MinInt, -128, -2, -1, addr.Width(a) + 1, 129, 1 << 32, math.MaxInt} {
			list = append(list, api.Prefix{Addr: a, Bits: bits})
		}
	}
	for _, p := range list {
		if x, e := New(p); x != nil || e != api.ErrArg {
			t.Errorf("New(%v) = %v, %d", p, x, e)
		}
	}
}

func TestUsedAndLeftAndHas(t *testing.T) {
	for _, k := range kinds() {
		for _, m := range someUsed(k) {
			hold(t, poolOf(m), m)
		}
	}
}

func TestUsedIsInOrderHoweverTheyCame(t *testing.T) {
	x := made("10.96.0.0/24")
	var want []api.Addr
	for _, text := range []string{"10.96.0.254", "10.96.0.5", "10.96.0.128", "10.96.0.1", "10.96.0.64", "10.96.0.63"} {
		if e := x.Take(toldAddr(text)); e != api.OK {
			t.Fatal(text, e)
		}
	}
	for _, text := range []string{"10.96.0.1", "10.96.0.5", "10.96.0.63", "10.96.0.64", "10.96.0.128", "10.96.0.254"} {
		want = append(want, toldAddr(text))
	}
	if got := x.Used(); !slices.Equal(got, want) || x.Left() != 248 {
		t.Error(got, x.Left())
	}
}

func TestUsedIsNewMemory(t *testing.T) {
	x := made("10.96.0.0/24")
	for range 3 {
		x.Next(5)
	}
	first, second := x.Used(), x.Used()
	want := slices.Clone(first)
	clear(first[:cap(first)])
	if !slices.Equal(second, want) || !slices.Equal(x.Used(), want) {
		t.Error(second, x.Used())
	}
}

func TestHasOfWhatItDoesNotLookAfter(t *testing.T) {
	for _, k := range kinds() {
		for _, m := range someUsed(k)[:2] {
			x := poolOf(m)
			for _, a := range strangersOf(k) {
				if x.Has(a) {
					t.Errorf("%s has %v", k.text, a)
				}
			}
		}
	}
}
