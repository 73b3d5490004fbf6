package disk

import (
	"math"
	"strings"
	"testing"

	"platbook/api"
)

// P9.1: the faults of the calls that are steps, in their order

// atMost is a disk with MaxFiles files: that of the number 1 has MaxBytes bytes,
// that of 2 six, of which three are safe; the others none.
func atMost(t *testing.T) (*Disk, *model) {
	t.Helper()
	d, m := ran(t, appends(1, full()), appends(2, "abc"), syncs(2), appends(2, "def"))
	for no := 3; no <= MaxFiles; no++ {
		if e, want := d.Append(no, ""), m.do(appends(no, "")); e != want {
			t.Fatal(no, e, want)
		}
	}
	hold(t, d, m)
	return d, m
}

// fault is a call that may not be, and what it answers.
type fault struct {
	c    call
	want api.Errno
}

// faults are all kinds of them on such a disk while it is on, those where
// several hold at once too.
func faults() []fault {
	long := full() + "x"
	return []fault{
		{appends(0, "x"), api.ErrArg},
		{appends(0, ""), api.ErrArg},
		{appends(1000001, "x"), api.ErrArg},
		{appends(-1, long), api.ErrArg},
		{appends(1000001, long), api.ErrArg},
		{appends(1, "x"), api.ErrLong},
		{appends(1, long), api.ErrLong},
		{appends(2, long), api.ErrLong},
		{appends(2, long[6:]), api.ErrLong},
		{appends(3, long), api.ErrLong},
		{appends(500, long), api.ErrLong},
		{appends(500, "x"), api.ErrFull},
		{appends(500, ""), api.ErrFull},
		{appends(111, full()), api.ErrFull},
		{appends(1000000, "x"), api.ErrFull},
		{syncs(0), api.ErrArg},
		{syncs(-7), api.ErrArg},
		{syncs(1000001), api.ErrArg},
		{syncs(500), api.ErrNone},
		{syncs(1000000), api.ErrNone},
		{trims(0, 0), api.ErrArg},
		{trims(1000001, 0), api.ErrArg},
		{trims(0, -1), api.ErrArg},
		{trims(500, 0), api.ErrNone},
		{trims(500, -1), api.ErrNone},
		{trims(500, 1), api.ErrNone},
		{trims(1000000, math.MaxInt), api.ErrNone},
		{trims(1, -1), api.ErrArg},
		{trims(1, 1<<20+1), api.ErrArg},
		{trims(2, -1), api.ErrArg},
		{trims(2, 7), api.ErrArg},
		{trims(3, 1), api.ErrArg},
		{trims(2, math.MinInt), api.ErrArg},
		{trims(2, math.MaxInt), api.ErrArg},
		{trims(2, 1<<32), api.ErrArg},
		{removes(0), api.ErrArg},
		{removes(math.MinInt), api.ErrArg},
		{removes(1000001), api.ErrArg},
		{removes(500), api.ErrNone},
		{removes(1000000), api.ErrNone},
	}
}

func TestFaults(t *testing.T) {
	d, m := atMost(t)
	for _, f := range faults() {
		if e := f.c.on(d); e != f.want {
			t.Errorf("%v = %d, want %d", f.c, e, f.want)
		}
		if want := m.do(f.c); want != f.want {
			t.Errorf("%v: the model tells %d", f.c, want)
		}
		hold(t, d, m)
	}
	holdInside(t, d, m)
}

// TestFaultsAreNoSteps has them with a fuse that would burn by any step.
func TestFaultsAreNoSteps(t *testing.T) {
	for _, fuse := range []int{1, 2} {
		d, m := atMost(t)
		holdCall(t, d, m, fuses(fuse))
		for _, f := range faults() {
			if e := f.c.on(d); e != f.want || !d.On() || d.Steps() != m.steps {
				t.Errorf("%v = %d, on: %v, %d steps, want %d, %d", f.c, e, d.On(), d.Steps(), f.want, m.steps)
			}
		}
		hold(t, d, m)
		holdFuse(t, d, m)
	}
}

func TestFaultsOfADiskThatIsOff(t *testing.T) {
	fuse := []call{fuses(1), syncs(3)}
	for _, off := range [][]call{{cuts()}, fuse} {
		d, m := atMost(t)
		for _, c := range off {
			holdCall(t, d, m, c)
		}
		list := []call{appends(2, "x"), appends(3, ""), syncs(2), trims(2, 0), trims(2, 6), removes(2), fuses(1), fuses(0), fuses(-1), cuts()}
		for _, f := range faults() {
			list = append(list, f.c)
		}
		for _, c := range list {
			if e := c.on(d); e != api.ErrDown {
				t.Errorf("%v = %d", c, e)
			}
		}
		hold(t, d, m)
		holdInside(t, d, m)
	}
}

func TestAsManyBytesAsThereMayBe(t *testing.T) {
	for _, made := range [][]call{
		{},
		{appends(1, "abc")},
		{appends(1, "abc"), syncs(1)},
		{appends(1, "abc"), syncs(1), appends(1, "def")},
	} {
		d, m := ran(t, made...)
		has, _ := d.Read(1)
		holdCall(t, d, m, appends(1, full()+"x"))
		holdCall(t, d, m, appends(1, full()[len(has):]+"x"))
		if d.Steps() != len(made) {
			t.Errorf("%d steps", d.Steps())
		}
		if e := d.Append(1, full()[len(has):]); e != api.OK {
			t.Fatal(e)
		}
		m.do(appends(1, full()[len(has):]))
		if s, _ := d.Read(1); len(s) != 1048576 {
			t.Errorf("%d bytes", len(s))
		}
		if e := d.Append(1, "x"); e != api.ErrLong {
			t.Errorf("one more: %d", e)
		}
		for _, c := range []call{appends(1, "xy"), appends(1, ""), syncs(1), appends(1, "x"), appends(2, full()), trims(1, 1048575), appends(1, "xy"), appends(1, "x"), appends(1, "x"), removes(1), appends(1, full())} {
			holdCall(t, d, m, c)
		}
		holdInside(t, d, m)
	}
}

// TestAsManyBytesBehindALoss: what the power left counts, no more.
func TestAsManyBytesBehindALoss(t *testing.T) {
	d, m := ran(t, appends(1, "abc"), syncs(1), appends(1, full()[3:]), cuts(), starts(7))
	for _, c := range []call{appends(1, full()[9:]), appends(1, full()[10:]), appends(1, "x")} {
		holdCall(t, d, m, c)
	}
	if s, _ := d.Read(1); len(s) != MaxBytes || d.Safe(1) != 10 {
		t.Errorf("%d bytes, %d safe", len(s), d.Safe(1))
	}
}

func TestAppendThatIsTooLongMakesNoFile(t *testing.T) {
	d := New()
	for _, more := range []int{1, 2, 1 << 16, 1 << 20} {
		if e := d.Append(1, full()+strings.Repeat("x", more)); e != api.ErrLong {
			t.Error(more, e)
		}
	}
	hold(t, d, &model{})
}

func TestAsManyFilesAsThereMayBe(t *testing.T) {
	for _, first := range []int{1, 1000000 - 109, 4711} {
		d, m := New(), &model{}
		for i := range 110 {
			if e := d.Append(first+109-i, "x"); e != api.OK {
				t.Fatal(i, e)
			}
			m.do(appends(first+109-i, "x"))
		}
		hold(t, d, m)
		for _, no := range []int{500000, 4710, 4821} {
			if e := d.Append(no, "x"); e != api.ErrFull {
				t.Errorf("Append(%d) = %d", no, e)
			}
			holdNoFile(t, d, no)
		}
		for _, c := range []call{appends(first, "yz"), appends(first+109, ""), syncs(first + 50), trims(first+1, 0), removes(first + 7), appends(500000, ""), appends(500001, ""), removes(first), appends(500001, "new"), appends(first, "x"), cuts(), starts(1), appends(first, "x"), appends(first+1, "x")} {
			holdCall(t, d, m, c)
		}
		if len(d.List()) != MaxFiles {
			t.Errorf("%d files", len(d.List()))
		}
		holdInside(t, d, m)
	}
}
