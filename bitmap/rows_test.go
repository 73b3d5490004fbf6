package bitmap

import (
	"math"
	"testing"

	"platbook/api"
)

// P5.2

// isRow is whether a map of that size has a row from the one to the other.
func isRow(size, from, to int) bool {
	return from >= 0 && from < size && to >= 0 && to < size && from <= to
}

// turnRow makes the bits of a row one, or not, and counts those that were
// otherwise.
func turnRow(want []bool, from, to int, one bool) (int, api.Errno) {
	if !isRow(len(want), from, to) {
		return 0, api.ErrArg
	}
	turned := 0
	for i := from; i <= to; i++ {
		if want[i] != one {
			want[i] = one
			turned++
		}
	}
	return turned, api.OK
}

func holdFill(t *testing.T, m *Map, want []bool, from, to int) {
	t.Helper()
	turned, told := turnRow(want, from, to, true)
	if got, e := m.Fill(from, to); got != turned || e != told {
		t.Fatalf("of %d: Fill(%d, %d) = %d, %d, want %d, %d", len(want), from, to, got, e, turned, told)
	}
}

func holdClear(t *testing.T, m *Map, want []bool, from, to int) {
	t.Helper()
	turned, told := turnRow(want, from, to, false)
	if got, e := m.Clear(from, to); got != turned || e != told {
		t.Fatalf("of %d: Clear(%d, %d) = %d, %d, want %d, %d", len(want), from, to, got, e, turned, told)
	}
}

func TestFillAndClear(t *testing.T) {
	m := made(200)
	steps := []struct {
		fill     bool
		from, to int
		turned   int
		count    int
	}{
		{true, 5, 5, 1, 1},
		{true, 5, 5, 0, 1},
		{true, 3, 8, 5, 6},
		{true, 0, 63, 58, 64},
		{true, 60, 130, 67, 131},
		{false, 63, 64, 2, 129},
		{false, 63, 64, 0, 129},
		{true, 199, 199, 1, 130},
		{false, 100, 199, 32, 98},
		{true, 0, 199, 102, 200},
		{true, 0, 199, 0, 200},
		{false, 0, 0, 1, 199},
		{false, 199, 199, 1, 198},
		{false, 0, 199, 198, 0},
		{false, 0, 199, 0, 0},
	}
	for _, c := range steps {
		call := m.Clear
		if c.fill {
			call = m.Fill
		}
		if turned, e := call(c.from, c.to); turned != c.turned || e != api.OK || m.Count() != c.count {
			t.Errorf("%v: %d, %d, count %d", c, turned, e, m.Count())
		}
	}
}

func TestAllRowsOfSmallMaps(t *testing.T) {
	for _, size := range []int{1, 2, 7, 8, 9, 63, 64, 65, 130} {
		for _, row := range someRows(size)[:5] {
			whole := mapOf(row)
			for from := range size {
				for to := from; to < size; to++ {
					m, want := whole.Copy(), append([]bool(nil), row...)
					holdFill(t, m, want, from, to)
					hold(t, m, want)
					m, want = whole.Copy(), append([]bool(nil), row...)
					holdClear(t, m, want, from, to)
					hold(t, m, want)
				}
			}
		}
	}
}

func TestRowsOfAGreatMap(t *testing.T) {
	ends := []int{0, 1, 62, 63, 64, 65, 127, 128, 300, 32767, 32768, 65471, 65472, 65534, 65535}
	for _, row := range someRows(65536) {
		m, want := mapOf(row), append([]bool(nil), row...)
		for k, from := range ends {
			for _, to := range ends[k:] {
				if (from+to)%2 == 0 {
					holdFill(t, m, want, from, to)
				} else {
					holdClear(t, m, want, from, to)
				}
				if m.Count() != countOnes(want) {
					t.Fatalf("count %d, want %d", m.Count(), countOnes(want))
				}
			}
		}
		hold(t, m, want)
		holdFill(t, m, want, 0, 65535)
		hold(t, m, want)
		holdClear(t, m, want, 0, 65535)
		hold(t, m, want)
	}
}

func TestRowsThatThereAreNoneOf(t *testing.T) {
	for _, size := range smallSizes() {
		for _, want := range someRows(size) {
			m := mapOf(want)
			for _, from := range append(wrongBits(size), 0, 1, size/2, size-1) {
				for _, to := range append(wrongBits(size), 0, 1, size/2, size-1) {
					if isRow(size, from, to) {
						continue
					}
					holdFill(t, m, want, from, to)
					holdClear(t, m, want, from, to)
				}
			}
			for from := range size {
				for to := range from {
					holdFill(t, m, want, from, to)
					holdClear(t, m, want, from, to)
				}
			}
			hold(t, m, want)
		}
	}
}

func TestCount(t *testing.T) {
	for _, size := range someSizes() {
		for _, want := range someRows(size) {
			if count := mapOf(want).Count(); count != countOnes(want) {
				t.Errorf("of %d: Count() = %d, want %d", size, count, countOnes(want))
			}
		}
	}
}

// P5.3

// firstFrom looks at each bit from one on, and from the first one on then.
func firstFrom(want []bool, from int) (int, bool) {
	if from < 0 {
		from = 0
	}
	for k := range want {
		i := (from%len(want) + k) % len(want)
		if !want[i] {
			return i, true
		}
	}
	return 0, false
}

func holdNext(t *testing.T, m *Map, want []bool, from int) {
	t.Helper()
	next, there := firstFrom(want, from)
	if i, found := m.Next(from); i != next || found != there {
		t.Fatalf("of %d: Next(%d) = %d, %v, want %d, %v", len(want), from, i, found, next, there)
	}
}

func TestNextOfTheDocument(t *testing.T) {
	m := made(3)
	for _, c := range []struct{ put, next int }{{1, 2}, {2, 0}} {
		if e := m.Put(c.put); e != api.OK {
			t.Error(e)
		}
		if i, found := m.Next(1); i != c.next || !found {
			t.Errorf("Next(1) = %d, %v behind Put(%d)", i, found, c.put)
		}
	}
}

func TestNext(t *testing.T) {
	m := made(130)
	for _, row := range [][2]int{{0, 2}, {10, 100}, {128, 129}} {
		if _, e := m.Fill(row[0], row[1]); e != api.OK {
			t.Error(e)
		}
	}
	tests := []struct{ from, want int }{
		{0, 3}, {2, 3}, {3, 3}, {4, 4}, {9, 9}, {10, 101}, {63, 101}, {64, 101}, {100, 101}, {101, 101}, {127, 127},
		// Behind the last one it goes on from the first one.
		{128, 3}, {129, 3},
		// From the size on.
		{130, 3}, {131, 3}, {134, 4}, {140, 101}, {257, 127}, {258, 3}, {259, 3}, {260, 3}, {130*1000 + 127, 127},
		// From below 0.
		{-1, 3}, {-2, 3}, {-3, 3}, {-126, 3}, {-130, 3}, {math.MinInt, 3},
	}
	for _, c := range tests {
		if i, found := m.Next(c.from); i != c.want || !found {
			t.Errorf("Next(%d) = %d, %v, want %d", c.from, i, found, c.want)
		}
	}
}

// fromsOf are numbers to look from: a few for a great map.
func fromsOf(size int) []int {
	list := []int{math.MinInt, -65536, -64, -2, -1, size - 1, size, size + 1, 2*size - 1, 2 * size, 2*size + 1, 1 << 31, 1<<32 + 1, math.MaxInt}
	for i := 0; i < size; i += 1 + size/200 {
		list = append(list, i, i+size)
	}
	return list
}

func TestNextFromAllBits(t *testing.T) {
	for _, size := range someSizes() {
		for _, want := range someRows(size) {
			m := mapOf(want)
			for _, from := range fromsOf(size) {
				holdNext(t, m, want, from)
			}
			hold(t, m, want)
		}
	}
}

func TestNextOfOneThatIsLeft(t *testing.T) {
	for _, size := range smallSizes() {
		for left := range size {
			m := made(size)
			m.Fill(0, size-1)
			m.Drop(left)
			for _, from := range fromsOf(size) {
				if i, found := m.Next(from); i != left || !found {
					t.Fatalf("of %d: Next(%d) = %d, %v, want %d", size, from, i, found, left)
				}
			}
		}
	}
}

func TestNextOfOnesAlone(t *testing.T) {
	for _, size := range someSizes() {
		m := made(size)
		m.Fill(0, size-1)
		for _, from := range fromsOf(size) {
			if i, found := m.Next(from); i != 0 || found {
				t.Fatalf("of %d: Next(%d) = %d, %v", size, from, i, found)
			}
		}
	}
}
