package disk

import (
	"math"
	"math/rand/v2"
	"slices"
	"strings"
	"testing"

	"platbook/api"
)

func TestExample(t *testing.T) {
	d := New()
	if e := d.Append(1, "abc"); e != api.OK {
		t.Fatal(e)
	}
	if e := d.Cut(); e != api.OK {
		t.Fatal(e)
	}
	if e := d.Start([]int{2}); e != api.OK {
		t.Fatal(e)
	}
	if s, found := d.Read(1); s != "ab" || !found || d.Safe(1) != 2 {
		t.Errorf("file 1 is %q, %v, of which %d are safe", s, found, d.Safe(1))
	}
}

func TestLimits(t *testing.T) {
	if MaxFile != 1000000 || MaxFiles != 110 || MaxBytes != 1048576 {
		t.Error(MaxFile, MaxFiles, MaxBytes)
	}
}

// A nil disk, all promises.

func TestNilDisk(t *testing.T) {
	var d *Disk
	for _, no := range []int{math.MinInt, -1, 0, 1, 2, 1000000, 1000001, math.MaxInt} {
		for _, c := range []call{
			appends(no, ""), appends(no, "abc"), appends(no, full()+"x"), syncs(no), removes(no), fuses(no),
			trims(no, -1), trims(no, 0), trims(no, 1), cuts(), starts(), starts(no), starts(no, 2, -3),
		} {
			if e := c.on(d); e != api.ErrNil {
				t.Errorf("%v = %d", c, e)
			}
		}
		holdNoFile(t, d, no)
	}
	if d.On() || d.Steps() != 0 || len(d.List()) != 0 || d.Copy() != nil {
		t.Error(d.On(), d.Steps(), d.List(), d.Copy())
	}
}

// P9.1: a new disk

func TestNew(t *testing.T) {
	holdInside(t, New(), &model{})
	for _, c := range []call{syncs(1), trims(1, 0), removes(1), appends(1, ""), appends(1, "abc"), fuses(1), fuses(0), cuts(), starts()} {
		d, m := New(), &model{}
		holdCall(t, d, m, c)
		holdInside(t, d, m)
	}
}

func TestNewOnesAreOthers(t *testing.T) {
	d, m := ran(t, appends(1, "abc"), syncs(1), appends(2, "x"), fuses(3))
	other := New()
	holdInside(t, other, &model{})
	holdCall(t, other, &model{}, appends(1, "other"))
	holdInside(t, d, m)
}

// P9.2: what the calls do

func TestAppend(t *testing.T) {
	d, m := New(), &model{}
	for _, c := range []call{
		appends(1, "abc"), appends(1, "def"), appends(1, ""), appends(7, ""), appends(7, "x"), syncs(1),
		appends(1, "g"), appends(1, ""), appends(2, "\x00\xff\u00e9"), syncs(2), appends(2, "\xff"), appends(3, ""), syncs(3), appends(3, "later"),
	} {
		holdCall(t, d, m, c)
		holdInside(t, d, m)
	}
	if s, found := d.Read(1); s != "abcdefg" || !found || d.Safe(1) != 6 {
		t.Errorf("%q, %v, %d", s, found, d.Safe(1))
	}
}

func TestAppendOfNothingMakesAFile(t *testing.T) {
	d, m := ran(t, appends(5, ""))
	if s, found := d.Read(5); s != "" || !found || d.Safe(5) != 0 || d.Steps() != 1 || !slices.Equal(d.List(), []int{5}) {
		t.Errorf("%q, %v, %d, %d, %v", s, found, d.Safe(5), d.Steps(), d.List())
	}
	for _, c := range []call{trims(5, 0), syncs(5), cuts(), starts(1), removes(5), appends(5, "")} {
		holdCall(t, d, m, c)
		holdInside(t, d, m)
	}
}

func TestAppendByteByByte(t *testing.T) {
	r := newRand(1)
	all := drawn(r, 3000)
	d := New()
	for i := range len(all) {
		if e := d.Append(1, all[i:i+1]); e != api.OK {
			t.Fatal(i, e)
		}
		if i%300 == 7 {
			d.Sync(1)
		}
	}
	if s, _ := d.Read(1); s != all || d.Safe(1) != 2708 || d.Steps() != 3010 {
		t.Errorf("%s, %d, %d", shown(s), d.Safe(1), d.Steps())
	}
}

func TestSync(t *testing.T) {
	d, m := ran(t, appends(1, "abc"), appends(2, "xyz"), syncs(1))
	holdInside(t, d, m)
	for _, c := range []call{syncs(1), appends(1, "d"), syncs(2), syncs(1), trims(1, 2), syncs(1), appends(1, "efg"), trims(1, 4), syncs(1), trims(1, 0), syncs(1)} {
		holdCall(t, d, m, c)
		holdInside(t, d, m)
	}
}

// TestTrim trims to each size, of files of which none, some and all are safe.
func TestTrim(t *testing.T) {
	for _, made := range [][]call{
		{appends(1, "")},
		{appends(1, "abcdef")},
		{appends(1, "abc"), syncs(1), appends(1, "def")},
		{appends(1, "abcde"), syncs(1), appends(1, "f")},
		{appends(1, "abcdef"), syncs(1)},
		{appends(1, "abcdef"), syncs(1), trims(1, 4), appends(1, "xyz")},
		{appends(1, "abcdef"), cuts(), starts(4), appends(1, "xyz")},
	} {
		for size := -2; size <= 9; size++ {
			d, m := ran(t, append(made, appends(2, "other"), syncs(2), appends(2, "tail"))...)
			holdCall(t, d, m, trims(1, size))
			holdInside(t, d, m)
			holdCall(t, d, m, appends(1, "behind"))
			holdInside(t, d, m)
			holdCall(t, d, m, trims(1, size+1))
			holdInside(t, d, m)
		}
	}
}

func TestTrimToWhatStands(t *testing.T) {
	for _, c := range []struct {
		size int
		s    string
		safe int
	}{{0, "", 0}, {2, "ab", 2}, {3, "abc", 3}, {4, "abcd", 3}, {5, "abcde", 3}, {6, "abcdef", 3}} {
		d, _ := ran(t, appends(1, "abc"), syncs(1), appends(1, "def"))
		if e := d.Trim(1, c.size); e != api.OK {
			t.Fatal(c.size, e)
		}
		if s, found := d.Read(1); s != c.s || !found || d.Safe(1) != c.safe || d.Steps() != 4 {
			t.Errorf("to %d: %q, %v, %d safe, %d steps", c.size, s, found, d.Safe(1), d.Steps())
		}
	}
}

func TestTrimOfALargeFile(t *testing.T) {
	d, m := ran(t, appends(1, full()))
	for _, size := range []int{1 << 20, 1<<20 - 1, 1 << 19, 70000, 65535, 1, 0} {
		holdCall(t, d, m, trims(1, size+1))
		holdCall(t, d, m, trims(1, size))
		holdCall(t, d, m, appends(1, "x"))
	}
	holdCall(t, d, m, appends(1, full()[1:]))
	holdInside(t, d, m)
}

func TestRemove(t *testing.T) {
	d, m := ran(t, appends(1, "abc"), syncs(1), appends(2, "x"), appends(3, ""), appends(1000000, "z"), syncs(1000000), appends(1000000, "tail"))
	for _, no := range []int{2, 1000000, 1, 3} {
		holdCall(t, d, m, removes(no))
		holdInside(t, d, m)
		for _, c := range []call{removes(no), syncs(no), trims(no, 0)} {
			holdCall(t, d, m, c)
		}
	}
}

// TestRemovedAndThereAgain has a file whose number was another one's: nothing
// of that is left, not even behind a loss of power.
func TestRemovedAndThereAgain(t *testing.T) {
	d, m := ran(t, appends(1, "abcdef"), syncs(1), appends(1, "ghi"), removes(1), appends(1, "xy"))
	holdInside(t, d, m)
	if s, _ := d.Read(1); s != "xy" || d.Safe(1) != 0 {
		t.Errorf("%q, %d", s, d.Safe(1))
	}
	for _, c := range []call{cuts(), starts(1), appends(1, "z"), syncs(1), removes(1), cuts(), starts(), syncs(1)} {
		holdCall(t, d, m, c)
		holdInside(t, d, m)
	}
}

// P9.1, P9.2: numbers

func TestNumbersOfFiles(t *testing.T) {
	for _, no := range []int{1, 2, 109, 110, 111, 65535, 65536, 999999, 1000000} {
		d, m := ran(t, appends(no, "abc"), syncs(no), appends(no, "def"))
		holdInside(t, d, m)
		for _, c := range []call{trims(no, 5), cuts(), starts(1), removes(no)} {
			holdCall(t, d, m, c)
			holdInside(t, d, m)
		}
	}
	for _, no := range []int{math.MinInt, math.MinInt32, -1000000, -1, 0, 1000001, 1 << 20, math.MaxInt32, 1 << 32, 1<<32 + 1, math.MaxInt} {
		d, m := ran(t, appends(1, "abc"), fuses(3))
		for _, c := range []call{appends(no, "x"), appends(no, ""), syncs(no), trims(no, 0), trims(no, 1), removes(no)} {
			if e := c.on(d); e != api.ErrArg {
				t.Errorf("%v = %d", c, e)
			}
			holdInside(t, d, m)
		}
		holdNoFile(t, d, no)
	}
}

func TestNumberOfWhatIsNotThere(t *testing.T) {
	for _, no := range []int{1, 3, 1000000} {
		d, m := ran(t, appends(2, "abc"), syncs(2), appends(2, "d"), fuses(3))
		for _, c := range []call{syncs(no), trims(no, 0), trims(no, 1), trims(no, -1), removes(no)} {
			if e := c.on(d); e != api.ErrNone {
				t.Errorf("%v = %d", c, e)
			}
			holdInside(t, d, m)
		}
	}
}

// P9.2: what is told, on and off

func TestListRises(t *testing.T) {
	r := newRand(2)
	d, m := New(), &model{}
	for range 100 {
		holdCall(t, d, m, appends(1+r.IntN(1000000), "x"))
	}
	for _, no := range []int{1000000, 1, 999999, 2, 500000} {
		holdCall(t, d, m, appends(no, "x"))
	}
	list := d.List()
	if !slices.IsSorted(list) || len(list) != len(m.entries) {
		t.Error(list)
	}
	holdCall(t, d, m, cuts())
	for range 20 {
		if again := d.List(); !slices.Equal(again, list) {
			t.Fatal(again, list)
		}
	}
}

func TestReadSafeAndListOnAndOff(t *testing.T) {
	d, m := ran(t, appends(9, "abc"), syncs(9), appends(9, "def"), appends(4, "x"), appends(6, ""), appends(5, "yz"), syncs(5))
	list, safe := []int{4, 5, 6, 9}, []int{0, 2, 0, 3}
	told := func(reads []string, found bool) {
		t.Helper()
		if !slices.Equal(d.List(), list) {
			t.Errorf("List() = %v", d.List())
		}
		for i, no := range list {
			if s, ok := d.Read(no); s != reads[i] || ok != found || d.Safe(no) != safe[i] {
				t.Errorf("Read(%d) = %q, %v, Safe(%d) = %d", no, s, ok, no, d.Safe(no))
			}
		}
		holdNoFile(t, d, 1)
		holdNoFile(t, d, 0)
		holdNoFile(t, d, 1000001)
	}
	told([]string{"x", "yz", "", "abcdef"}, true)
	holdCall(t, d, m, cuts())
	told([]string{"", "", "", ""}, false)
	holdCall(t, d, m, starts(0, 2))
	safe[3] = 5
	told([]string{"", "yz", "", "abcde"}, true)
	holdInside(t, d, m)
}

// Calls that ask change nothing.
func TestAskingChangesNothing(t *testing.T) {
	d, m := ran(t, appends(1, "abc"), syncs(1), appends(1, "def"), appends(2, "x"), fuses(4))
	for range 10 {
		for no := -1; no < 4; no++ {
			d.Read(no)
			d.Safe(no)
		}
		d.List()
		d.On()
		d.Steps()
		d.Copy()
	}
	holdInside(t, d, m)
}

// What is handed in, and what is answered.

func TestPicksAreNotChanged(t *testing.T) {
	d, _ := ran(t, appends(1, "abc"), appends(2, "abc"), appends(3, "abc"), cuts())
	room := []int{-5, 7, math.MaxInt, 4, 4}
	want := slices.Clone(room)
	if e := d.Start(room[:3]); e != api.OK {
		t.Fatal(e)
	}
	if !slices.Equal(room, want) {
		t.Error(room)
	}
}

func TestWhatWasReadStays(t *testing.T) {
	d, _ := ran(t, appends(1, "abcdef"), appends(1, "ghi"))
	first, _ := d.Read(1)
	list := d.List()
	d.Trim(1, 2)
	d.Append(1, "XXXXXXX")
	second, _ := d.Read(1)
	d.Cut()
	d.Start([]int{1})
	d.Append(1, "YYYYYYY")
	d.Append(9, "z")
	if first != "abcdefghi" || second != "abXXXXXXX" || !slices.Equal(list, []int{1}) {
		t.Error(first, second, list)
	}
	list[0] = 77
	list = append(list[:0], d.List()...)
	clear(list)
	if !slices.Equal(d.List(), []int{1, 9}) {
		t.Error(d.List())
	}
}

// Any calls, one behind the other.

func TestAnyCalls(t *testing.T) {
	for n := range uint64(400) {
		r := newRand(1000 + n)
		d, m := New(), &model{}
		for range 150 {
			holdCall(t, d, m, drawCall(r, 4, 6))
		}
		holdInside(t, d, m)
	}
}

func TestAnyCallsHeldInside(t *testing.T) {
	for n := range uint64(60) {
		r := newRand(2000 + n)
		d, m := New(), &model{}
		for range 80 {
			holdCall(t, d, m, drawCall(r, 3, 5))
			holdInside(t, d, m)
		}
	}
}

// TestAnyCallsOfManyFiles comes to as many files as there may be, and beyond.
func TestAnyCallsOfManyFiles(t *testing.T) {
	met := 0
	for n := range uint64(6) {
		r := newRand(3000 + n)
		d, m := New(), &model{}
		for no := range 105 {
			holdCall(t, d, m, appends(1000+no, drawn(r, r.IntN(3))))
		}
		for range 300 {
			c := drawCall(r, 200, 4)
			if m.copy().do(c) == api.ErrFull {
				met++
			}
			holdCall(t, d, m, c)
		}
		holdInside(t, d, m)
	}
	if met == 0 {
		t.Error("no disk was full")
	}
}

// TestAnyCallsOfLargeFiles comes to as many bytes as there may be, and beyond.
func TestAnyCallsOfLargeFiles(t *testing.T) {
	met := 0
	for n := range uint64(3) {
		r := newRand(4000 + n)
		d, m := New(), &model{}
		for range 100 {
			c := drawLarge(r)
			if m.copy().do(c) == api.ErrLong {
				met++
			}
			holdCall(t, d, m, c)
		}
		holdInside(t, d, m)
	}
	if met == 0 {
		t.Error("no file was too long")
	}
}

func drawLarge(r *rand.Rand) call {
	if r.IntN(2) == 0 {
		return appends(1+r.IntN(2), strings.Repeat(drawn(r, 1), r.IntN(1<<19)))
	}
	return drawCall(r, 2, 1<<19)
}
