package bitmap

import (
	"math"
	"math/rand/v2"
	"slices"
	"testing"

	"platbook/api"
)

// made is a map of that size without ones.
func made(size int) *Map {
	m, e := New(size)
	if e != api.OK {
		panic("no such size")
	}
	return m
}

// mapOf is the map with those bits.
func mapOf(want []bool) *Map {
	m := made(len(want))
	for i, one := range want {
		if one && m.Put(i) != api.OK {
			panic("no such bit")
		}
	}
	return m
}

// withOnes is a row of bits of which those are ones.
func withOnes(size int, ones ...int) []bool {
	list := make([]bool, size)
	for _, i := range ones {
		list[i] = true
	}
	return list
}

func countOnes(want []bool) int {
	count := 0
	for _, one := range want {
		if one {
			count++
		}
	}
	return count
}

// hold holds a map against the bits that it is to have: by its size, its count
// and each of its bits.
func hold(t *testing.T, m *Map, want []bool) {
	t.Helper()
	if m.Size() != len(want) || m.Count() != countOnes(want) {
		t.Fatalf("size %d, count %d, want %d, %d", m.Size(), m.Count(), len(want), countOnes(want))
	}
	for i, one := range want {
		if m.Has(i) != one {
			t.Fatalf("of %d: Has(%d) = %v", len(want), i, m.Has(i))
		}
	}
}

// smallSizes lie round the multiples of 8 and of 64.
func smallSizes() []int {
	return []int{0, 1, 2, 3, 7, 8, 9, 15, 16, 17, 55, 56, 57, 63, 64, 65, 71, 72, 73, 127, 128, 129, 130, 191, 192, 193}
}

func someSizes() []int {
	return append(smallSizes(), 255, 256, 257, 1000, 65471, 65472, 65473, 65527, 65528, 65529, 65535, 65536)
}

// wrongBits are numbers that a map of that size has no bit of.
func wrongBits(size int) []int {
	return []int{-1, -2, -63, -64, -65, -65536, math.MinInt, size, size + 1, size + 63, size + 64, 65536, 65537, math.MaxInt}
}

// someRows are rows of bits of that size: none, all, every second one, and some
// of no pattern, the same ones each time.
func someRows(size int) [][]bool {
	none, all, second := make([]bool, size), make([]bool, size), make([]bool, size)
	for i := range size {
		all[i] = true
		second[i] = i%2 == 1
	}
	list := [][]bool{none, all, second}
	r := rand.New(rand.NewPCG(5, uint64(size)))
	for _, outOf := range []int{2, 10, 100} {
		few, many := make([]bool, size), make([]bool, size)
		for i := range size {
			few[i] = r.IntN(outOf) == 0
			many[i] = !few[i]
		}
		list = append(list, few, many)
	}
	return list
}

// A nil map, all promises.

func TestNilMap(t *testing.T) {
	var m *Map
	if m.Size() != 0 || m.Count() != 0 || m.Bytes() != "" || m.Copy() != nil {
		t.Error(m.Size(), m.Count(), m.Bytes(), m.Copy())
	}
	for _, i := range []int{math.MinInt, -1, 0, 1, 64, math.MaxInt} {
		if m.Has(i) || m.Put(i) != api.ErrNil || m.Drop(i) != api.ErrNil {
			t.Errorf("Has, Put, Drop of %d: %v, %d, %d", i, m.Has(i), m.Put(i), m.Drop(i))
		}
		if next, found := m.Next(i); next != 0 || found {
			t.Errorf("Next(%d) = %d, %v", i, next, found)
		}
		for _, to := range []int{i - 1, i, i + 1} {
			if turned, e := m.Fill(i, to); turned != 0 || e != api.ErrNil {
				t.Errorf("Fill(%d, %d) = %d, %d", i, to, turned, e)
			}
			if turned, e := m.Clear(i, to); turned != 0 || e != api.ErrNil {
				t.Errorf("Clear(%d, %d) = %d, %d", i, to, turned, e)
			}
		}
	}
}

// P5.1

func TestNew(t *testing.T) {
	for _, size := range someSizes() {
		m, e := New(size)
		if m == nil || e != api.OK {
			t.Fatalf("New(%d) = %v, %d", size, m, e)
		}
		hold(t, m, make([]bool, size))
	}
}

func TestNewOfWrongSizes(t *testing.T) {
	for _, size := range []int{math.MinInt, -65536, -64, -1, 65537, 65600, 1 << 20, 1 << 31, 1 << 32, math.MaxInt} {
		if m, e := New(size); m != nil || e != api.ErrArg {
			t.Errorf("New(%d) = %v, %d", size, m, e)
		}
	}
}

func TestPutAndDropEachBit(t *testing.T) {
	for _, size := range smallSizes() {
		for i := range size {
			m, want := made(size), make([]bool, size)
			if e := m.Drop(i); e != api.ErrNone {
				t.Errorf("of %d: Drop(%d) = %d ahead of Put", size, i, e)
			}
			hold(t, m, want)
			if e := m.Put(i); e != api.OK {
				t.Errorf("of %d: Put(%d) = %d", size, i, e)
			}
			want[i] = true
			hold(t, m, want)
			if e := m.Put(i); e != api.ErrUsed {
				t.Errorf("of %d: Put(%d) = %d again", size, i, e)
			}
			hold(t, m, want)
			if e := m.Drop(i); e != api.OK {
				t.Errorf("of %d: Drop(%d) = %d", size, i, e)
			}
			want[i] = false
			hold(t, m, want)
		}
	}
}

func TestPutAndDropAmongOnes(t *testing.T) {
	for _, size := range smallSizes() {
		for i := range size {
			want := make([]bool, size)
			for k := range want {
				want[k] = true
			}
			m := mapOf(want)
			if e := m.Put(i); e != api.ErrUsed {
				t.Errorf("of %d: Put(%d) = %d", size, i, e)
			}
			if e := m.Drop(i); e != api.OK {
				t.Errorf("of %d: Drop(%d) = %d", size, i, e)
			}
			want[i] = false
			hold(t, m, want)
			if e := m.Drop(i); e != api.ErrNone {
				t.Errorf("of %d: Drop(%d) = %d again", size, i, e)
			}
			hold(t, m, want)
		}
	}
}

func TestPutAndDropOfAGreatMap(t *testing.T) {
	m := made(65536)
	ones := []int{0, 1, 63, 64, 127, 128, 32767, 32768, 65472, 65534, 65535}
	for _, i := range ones {
		if e := m.Put(i); e != api.OK {
			t.Errorf("Put(%d) = %d", i, e)
		}
	}
	hold(t, m, withOnes(65536, ones...))
	for _, i := range ones[1:] {
		if e := m.Drop(i); e != api.OK {
			t.Errorf("Drop(%d) = %d", i, e)
		}
	}
	hold(t, m, withOnes(65536, 0))
}

func TestBitsThatThereAreNoneOf(t *testing.T) {
	for _, size := range someSizes() {
		for _, want := range [][]bool{someRows(size)[0], someRows(size)[1]} {
			m := mapOf(want)
			for _, i := range wrongBits(size) {
				if i >= 0 && i < size {
					continue
				}
				if m.Has(i) || m.Put(i) != api.ErrArg || m.Drop(i) != api.ErrArg {
					t.Errorf("of %d: Has, Put, Drop of %d: %v, %d, %d", size, i, m.Has(i), m.Put(i), m.Drop(i))
				}
			}
			hold(t, m, want)
		}
	}
}

// P5.5

func TestWhatWasPutIsDroppedAgain(t *testing.T) {
	for _, size := range someSizes() {
		for _, want := range someRows(size) {
			m := mapOf(want)
			before := m.Bytes()
			var put []int
			for i := 0; i < size; i += 1 + size/20 {
				if m.Put(i) == api.OK {
					put = append(put, i)
				}
			}
			if m.Count() != countOnes(want)+len(put) {
				t.Errorf("of %d: %d ones behind %d puts", size, m.Count(), len(put))
			}
			slices.Reverse(put)
			for _, i := range put {
				if e := m.Drop(i); e != api.OK {
					t.Errorf("of %d: Drop(%d) = %d", size, i, e)
				}
			}
			hold(t, m, want)
			if m.Bytes() != before {
				t.Errorf("of %d: other bytes than before", size)
			}
		}
	}
}

func TestEachNextIsAnotherOne(t *testing.T) {
	for _, size := range smallSizes() {
		for _, from := range []int{0, 1, 63, 64, size / 2, size - 1, size, -1} {
			holdEachNext(t, size, from)
		}
	}
	holdEachNext(t, 65535, 65534)
	holdEachNext(t, 65536, 32768)
}

// holdEachNext puts each Next from one on, till there is none.
func holdEachNext(t *testing.T, size, from int) {
	t.Helper()
	m := made(size)
	for k := range size {
		i, found := m.Next(from)
		if !found || m.Put(i) != api.OK {
			t.Fatalf("of %d: Next(%d) = %d, %v behind %d others", size, from, i, found, k)
		}
	}
	if i, found := m.Next(from); i != 0 || found || m.Count() != size {
		t.Fatalf("of %d: Next(%d) = %d, %v of %d ones", size, from, i, found, m.Count())
	}
}

// Many calls of all kinds, one behind the other, held against a row of bools.

func TestCallsOneBehindTheOther(t *testing.T) {
	r := rand.New(rand.NewPCG(5, 5))
	for _, size := range []int{1, 8, 63, 64, 65, 130, 200} {
		m, want := made(size), make([]bool, size)
		for range 2000 {
			from, to := r.IntN(size+4)-2, r.IntN(size+4)-2
			switch r.IntN(6) {
			case 0:
				holdPut(t, m, want, from)
			case 1:
				holdDrop(t, m, want, from)
			case 2:
				holdFill(t, m, want, from, to)
			case 3:
				holdClear(t, m, want, from, to)
			case 4:
				holdNext(t, m, want, from)
			case 5:
				m = holdBytes(t, m, want)
			}
			hold(t, m, want)
		}
	}
}

func holdPut(t *testing.T, m *Map, want []bool, i int) {
	t.Helper()
	told := api.OK
	switch {
	case i < 0 || i >= len(want):
		told = api.ErrArg
	case want[i]:
		told = api.ErrUsed
	default:
		want[i] = true
	}
	if e := m.Put(i); e != told {
		t.Fatalf("of %d: Put(%d) = %d, want %d", len(want), i, e, told)
	}
}

func holdDrop(t *testing.T, m *Map, want []bool, i int) {
	t.Helper()
	told := api.OK
	switch {
	case i < 0 || i >= len(want):
		told = api.ErrArg
	case !want[i]:
		told = api.ErrNone
	default:
		want[i] = false
	}
	if e := m.Drop(i); e != told {
		t.Fatalf("of %d: Drop(%d) = %d, want %d", len(want), i, e, told)
	}
}
