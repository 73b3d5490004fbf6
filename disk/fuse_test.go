package disk

import (
	"math"
	"testing"

	"platbook/api"
)

// P9.1, P9.3: steps, fuses and cuts

// madeForSteps is a disk with a file of a safe part and a tail, one all safe,
// and one without a byte.
func madeForSteps() []call {
	return []call{appends(1, "abc"), syncs(1), appends(1, "def"), appends(2, "xyz"), syncs(2), appends(3, "")}
}

// stepsOfEachKind are calls that may be there, of each kind.
func stepsOfEachKind() []call {
	return []call{
		appends(1, "ghi"), appends(1, ""), appends(3, "x"), appends(4, "new"), appends(4, ""), appends(1000000, "new"),
		syncs(1), syncs(2), syncs(3),
		trims(1, 0), trims(1, 2), trims(1, 3), trims(1, 5), trims(1, 6), trims(2, 1), trims(3, 0),
		removes(1), removes(2), removes(3),
	}
}

func TestEachStepIsCounted(t *testing.T) {
	for _, c := range stepsOfEachKind() {
		d, m := ran(t, madeForSteps()...)
		for _, fuse := range []int{0, 5} {
			holdCall(t, d, m, fuses(fuse))
			before := d.Steps()
			e := c.on(d)
			want := m.do(c)
			if e != want || e == api.OK && d.Steps() != before+1 || e != api.OK && d.Steps() != before {
				t.Errorf("%v = %d: %d steps, ahead of it %d", c, e, d.Steps(), before)
			}
			holdInside(t, d, m)
		}
	}
}

func TestWhatIsNoStep(t *testing.T) {
	d, m := ran(t, madeForSteps()...)
	d.Read(1)
	d.Safe(1)
	d.List()
	d.On()
	d.Copy().Append(1, "x")
	for _, c := range []call{fuses(3), fuses(0), starts(1), cuts(), cuts(), fuses(1), starts(1, 1)} {
		holdCall(t, d, m, c)
	}
	if d.Steps() != 6 {
		t.Errorf("%d steps", d.Steps())
	}
}

// TestFuseOfOne: of an Append what it brings is there, the others do nothing.
func TestFuseOfOne(t *testing.T) {
	for _, c := range stepsOfEachKind() {
		d, m := ran(t, append(madeForSteps(), fuses(1))...)
		if e := c.on(d); e != api.ErrDown || d.On() || d.Steps() != 7 {
			t.Errorf("%v = %d, on: %v, %d steps", c, e, d.On(), d.Steps())
		}
		m.do(c)
		hold(t, d, m)
		holdInside(t, d, m)
	}
}

func TestFuseOfOneByItsWords(t *testing.T) {
	for _, x := range []struct {
		c    call
		no   int
		s    string // with the whole tail
		safe int    // while it is off
	}{
		{appends(1, "ghi"), 1, "abcdefghi", 3},
		{appends(1, ""), 1, "abcdef", 3},
		{appends(2, "w"), 2, "xyzw", 3},
		{appends(4, "new"), 4, "new", 0},
		{appends(4, ""), 4, "", 0},
		{syncs(1), 1, "abcdef", 3},
		{trims(1, 0), 1, "abcdef", 3},
		{trims(1, 4), 1, "abcdef", 3},
		{removes(1), 1, "abcdef", 3},
	} {
		d, _ := ran(t, append(madeForSteps(), fuses(1))...)
		if e := x.c.on(d); e != api.ErrDown || d.On() || d.Safe(x.no) != x.safe {
			t.Errorf("%v = %d, on: %v, %d safe", x.c, e, d.On(), d.Safe(x.no))
		}
		tail := len(x.s) - x.safe
		picks := []int{tail}
		if x.no != 1 { // the first tail is that of file 1
			picks = []int{0, tail}
		}
		d.Start(picks)
		if s, found := d.Read(x.no); s != x.s || !found || d.Safe(x.no) != len(x.s) {
			t.Errorf("%v: Read = %q, %v, %d safe", x.c, s, found, d.Safe(x.no))
		}
	}
}

// TestFuses has fuses of each length, burnt by calls of all kinds.
func TestFuses(t *testing.T) {
	for fuse := 1; fuse <= longest; fuse++ {
		for _, c := range stepsOfEachKind() {
			d, m := ran(t, append(madeForSteps(), fuses(fuse))...)
			for i := 1; i < fuse; i++ {
				if e := d.Append(2, ""); e != api.OK || !d.On() {
					t.Fatalf("a fuse of %d, step %d: %d", fuse, i, e)
				}
				m.do(appends(2, ""))
			}
			if e := c.on(d); e != api.ErrDown || d.On() || d.Steps() != 6+fuse {
				t.Errorf("a fuse of %d: %v = %d, on: %v, %d steps", fuse, c, e, d.On(), d.Steps())
			}
			m.do(c)
			holdInside(t, d, m)
		}
	}
}

// TestFuseOfTwo burns by calls of each kind, then by those of each kind.
func TestFuseOfTwo(t *testing.T) {
	for _, first := range stepsOfEachKind() {
		for _, second := range stepsOfEachKind() {
			d, m := ran(t, append(madeForSteps(), fuses(2))...)
			if e := first.on(d); e != api.OK || !d.On() {
				t.Fatalf("%v = %d", first, e)
			}
			m.do(first)
			holdInside(t, d, m)
			want := m.do(second)
			if e := second.on(d); e != want || d.On() == m.isOff {
				t.Fatalf("%v, %v = %d, on: %v, want %d", first, second, e, d.On(), want)
			}
			holdInside(t, d, m)
		}
	}
}

func TestNoFuse(t *testing.T) {
	for _, n := range []int{0, -1, -2, math.MinInt} {
		for _, ahead := range []int{0, 1, 2, 5} {
			d, m := ran(t, append(madeForSteps(), fuses(ahead), fuses(n))...)
			for range 30 {
				holdCall(t, d, m, appends(1, "x"))
			}
			holdInside(t, d, m)
		}
	}
}

func TestFuseInPlaceOfAnother(t *testing.T) {
	for _, ahead := range []int{1, 2, 3, 9} {
		for _, burnt := range []int{0, 1} {
			for _, n := range []int{1, 2, 3, 8} {
				d, m := ran(t, madeForSteps()...)
				holdCall(t, d, m, fuses(ahead+burnt))
				for range burnt {
					holdCall(t, d, m, syncs(1))
				}
				holdCall(t, d, m, fuses(n))
				holdInside(t, d, m)
			}
		}
	}
}

func TestLongFuse(t *testing.T) {
	for _, n := range []int{1000, math.MaxInt32, 1<<32 + 1, 1<<32 + 2, math.MaxInt} {
		d, m := ran(t, append(madeForSteps(), fuses(n))...)
		for i := range 999 {
			if e := d.Sync(1); e != api.OK {
				t.Fatal(n, i, e)
			}
			m.do(syncs(1))
		}
		holdCall(t, d, m, syncs(2))
		holdInside(t, d, m)
	}
}

func TestCut(t *testing.T) {
	d, m := ran(t, append(madeForSteps(), fuses(2))...)
	if e := d.Cut(); e != api.OK || d.On() || d.Steps() != 6 {
		t.Fatalf("Cut() = %d, on: %v, %d steps", e, d.On(), d.Steps())
	}
	m.do(cuts())
	holdInside(t, d, m)
	if e := d.Cut(); e != api.ErrDown || d.On() {
		t.Fatalf("Cut() while it is off = %d, on: %v", e, d.On())
	}
	holdInside(t, d, m)
	for _, c := range []call{fuses(5), fuses(0), starts(2), cuts(), starts(2), cuts(), cuts()} {
		holdCall(t, d, m, c)
		holdInside(t, d, m)
	}
}

// TestNoFuseBehindALoss: neither that which burnt, nor one that a cut met, nor
// one that was asked for while it was off.
func TestNoFuseBehindALoss(t *testing.T) {
	for _, off := range [][]call{{fuses(1), syncs(1)}, {fuses(1), cuts()}, {fuses(2), cuts()}, {fuses(9), cuts()}, {fuses(2), syncs(1), appends(1, "x")}, {fuses(2), cuts(), fuses(1)}, {fuses(2), cuts(), fuses(3)}} {
		d, m := ran(t, append(madeForSteps(), off...)...)
		holdCall(t, d, m, starts(1))
		for range 20 {
			if e := d.Append(1, "x"); e != api.OK || !d.On() {
				t.Fatalf("behind %v: %d", off, e)
			}
			m.do(appends(1, "x"))
		}
		holdInside(t, d, m)
	}
}
