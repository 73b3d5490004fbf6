package wal

import (
	"fmt"
	"slices"
	"strings"
	"testing"

	"platbook/api"
)

// P11.3: Append

// begun is a pair of a disk that was formatted, and its log, behind these calls.
func begun(t *testing.T, calls ...call) *pair {
	t.Helper()
	return ran(t, append([]call{formats(), opens()}, calls...)...)
}

// sized is a record whose frame has so many bytes.
func sized(size int) string {
	return strings.Repeat("s", size-8)
}

// fullLog is a log with so many segments, each just full, all of it synced but
// the last one.
func fullLog(t *testing.T, segments int) *pair {
	t.Helper()
	p := begun(t)
	for range segments {
		p.hold(t, appends(sized(600)))
	}
	return p
}

func (p *pair) read(no int) string {
	s, _ := p.disk.Read(no)
	return s
}

func TestAppend(t *testing.T) {
	p := begun(t)
	for i, s := range []string{"a", "bc", "\x00", "\xff\xfe", "a", "é"} {
		if e := p.hold(t, appends(s)); e != api.OK || p.log.Pending() != i+1 || len(p.log.Records()) != i+1 {
			t.Fatal(i, e, p.log.Pending())
		}
	}
	if want := framed("a", "bc", "\x00", "\xff\xfe", "a", "é"); p.read(101) != want || p.disk.Safe(101) != 0 {
		t.Errorf("%q, %d safe", p.read(101), p.disk.Safe(101))
	}
	p.hold(t, opens())
}

func TestAppendOfTooMuch(t *testing.T) {
	for _, made := range [][]call{{}, {appends("a")}, {appends("a"), syncs()}, {appends(sized(600))}, {cuts()}} {
		p := begun(t, made...)
		ahead := p.disk.Steps()
		for _, s := range []string{"", most() + "x", most() + most(), strings.Repeat("x", 1<<20+1)} {
			if e := p.hold(t, appends(s)); e != api.ErrLong || p.disk.Steps() != ahead {
				t.Error(shown(s), e)
			}
		}
	}
	p := begun(t)
	for _, s := range []string{"x", most(), most()[1:], "x"} {
		if e := p.hold(t, appends(s)); e != api.OK {
			t.Error(shown(s), e)
		}
	}
	p.hold(t, opens())
	if r := p.log.Records(); len(r) != 4 || r[1] != most() || r[2] != most()[1:] {
		t.Error(listed(r))
	}
}

// TestWhenASegmentIsFull has records one byte shorter, and longer, than what
// fills it; of one record, and of several.
func TestWhenASegmentIsFull(t *testing.T) {
	for _, c := range []struct {
		sizes  []int
		isFull bool
	}{
		{[]int{9}, false},
		{[]int{599}, false},
		{[]int{600}, true},
		{[]int{601}, true},
		{[]int{65544}, true},
		{[]int{300, 299}, false},
		{[]int{300, 300}, true},
		{[]int{599, 9}, true},
		{[]int{599, 65544}, true},
		{[]int{9, 9, 581}, false},
		{[]int{9, 9, 582}, true},
	} {
		p := begun(t)
		for _, size := range c.sizes {
			p.hold(t, appends(sized(size)))
		}
		if !slices.Equal(p.disk.List(), []int{100, 101}) || p.log.Pending() != len(c.sizes) {
			t.Error(c.sizes, p.disk.List(), p.log.Pending())
		}
		for _, again := range []bool{false, true} {
			q := begun(t)
			for _, size := range c.sizes {
				q.hold(t, appends(sized(size)))
			}
			if again {
				q.hold(t, opens())
			}
			q.hold(t, appends("more"))
			if got := slices.Equal(q.disk.List(), []int{100, 101, 102}); got != c.isFull {
				t.Error(c.sizes, again, q.disk.List())
			}
		}
	}
}

// TestAFullSegmentIsSyncedFirst has the power go behind each step, and nothing
// of tails left.
func TestAFullSegmentIsSyncedFirst(t *testing.T) {
	for fuse, want := range []struct {
		e       api.Errno
		files   []int
		safe    int
		pending int
	}{
		{api.OK, []int{100, 101, 102}, 600, 1},
		{api.ErrDown, []int{100, 101}, 0, 1},
		{api.ErrDown, []int{100, 101, 102}, 600, 0},
		{api.OK, []int{100, 101, 102}, 600, 1},
	} {
		p := begun(t, appends(sized(600)), fuses(fuse))
		if e := p.hold(t, appends("b")); e != want.e || p.disk.Safe(101) != want.safe || !slices.Equal(p.disk.List(), want.files) {
			t.Errorf("a fuse of %d: %d, %d safe, files %v", fuse, e, p.disk.Safe(101), p.disk.List())
		}
		if p.log.Pending() != want.pending {
			t.Errorf("a fuse of %d: %d pending", fuse, p.log.Pending())
		}
	}
}

// What was synced isn't pending, also where the append behind it fails: by the
// power, or since the disk has no room for a file more.
func TestPendingOfAnAppendThatFails(t *testing.T) {
	for _, c := range []struct {
		calls   []call
		fuse    int
		pending int
		records int
	}{
		{[]call{appends("a"), appends("b")}, 1, 2, 2},
		{[]call{appends(sized(600))}, 1, 1, 1},
		{[]call{appends(sized(600))}, 2, 0, 1},
		{[]call{appends("a"), appends("b"), appends(sized(600))}, 1, 3, 3},
		{[]call{appends("a"), appends("b"), appends(sized(600))}, 2, 0, 3},
		{[]call{appends("a"), syncs(), appends(sized(600))}, 1, 1, 2},
		{[]call{appends("a"), syncs(), appends(sized(600))}, 2, 0, 2},
		{[]call{appends(sized(600)), appends(sized(600)), appends("c")}, 1, 1, 3},
		{[]call{appends(sized(600)), syncs()}, 1, 0, 1},
		{[]call{appends(sized(600)), syncs()}, 2, 0, 1},
	} {
		p := begun(t, append(c.calls, fuses(c.fuse))...)
		if e := p.hold(t, appends("more")); e != api.ErrDown || p.log.Pending() != c.pending || len(p.log.Records()) != c.records {
			t.Errorf("%v, a fuse of %d: %d, %d pending, %d records", c.calls, c.fuse, e, p.log.Pending(), len(p.log.Records()))
		}
		holdOver(t, p)
		if p.log.Pending() != c.pending {
			t.Errorf("%v, a fuse of %d: %d pending", c.calls, c.fuse, p.log.Pending())
		}
	}
	p := begun(t, appends(sized(600)))
	for no := 5000; len(p.disk.List()) < 110; no++ {
		p.hold(t, lays(no, ""))
	}
	if e := p.hold(t, appends("b")); e != api.ErrFull || p.log.Pending() != 0 {
		t.Error(e, p.log.Pending())
	}
}

// A full segment of which all is safe is synced all the same: that is a step.
func TestAFullSegmentIsSyncedAgain(t *testing.T) {
	p := begun(t, appends(sized(600)), syncs())
	ahead := p.disk.Steps()
	p.hold(t, appends("b"))
	if n := p.disk.Steps() - ahead; n != 2 {
		t.Error(n)
	}
	p.hold(t, appends("c"))
	if n := p.disk.Steps() - ahead; n != 3 || p.log.Pending() != 2 {
		t.Error(n, p.log.Pending())
	}
}

// A segment that is full isn't synced till another one has to begin.
func TestAFullSegmentWaits(t *testing.T) {
	p := begun(t, appends("a"), appends(sized(600)))
	if p.log.Pending() != 2 || p.disk.Safe(101) != 0 {
		t.Error(p.log.Pending(), p.disk.Safe(101))
	}
	p.hold(t, appends("b"))
	if p.log.Pending() != 1 || p.disk.Safe(101) != 609 || p.disk.Safe(102) != 0 || p.read(102) != framed("b") {
		t.Error(p.log.Pending(), p.disk.Safe(101), p.disk.Safe(102))
	}
}

func TestAppendWithEachErrorOfTheDisk(t *testing.T) {
	for _, calls := range [][]call{
		{},
		{appends("a")},
		{appends("a"), syncs()},
		{appends(sized(599))},
		{appends(sized(600))},
		{appends(sized(600)), appends("b"), syncs()},
		{appends(sized(600)), appends("b"), appends(sized(700))},
		{renews("text")},
		{renews("text"), appends(sized(600)), syncs()},
	} {
		holdEach(t, func() *pair { return begun(t, calls...) }, appends("more"))
		holdEach(t, func() *pair { return begun(t, calls...) }, appends(sized(600)))
	}
}

func TestAppendPastTheLastSegment(t *testing.T) {
	p := fullLog(t, 98)
	p.hold(t, appends("the 99th begins"))
	p.hold(t, appends("and goes on"))
	p.hold(t, appends(most()))
	for _, c := range []call{appends("none"), appends(most()), appends("none"), syncs(), appends("none"), opens(), appends("none")} {
		ahead := p.disk.Steps()
		e := p.hold(t, c)
		isAppend := c.name == "Append"
		if isAppend && (e != api.ErrFull || p.disk.Steps() != ahead) || !isAppend && e != api.OK {
			t.Error(c, e)
		}
		if len(p.disk.List()) != 100 || len(p.log.Records()) != 101 {
			t.Error(p.disk.List(), len(p.log.Records()))
		}
	}
	for _, c := range []call{appends(""), appends(most() + "x")} {
		if e := p.hold(t, c); e != api.ErrLong {
			t.Error(c, e)
		}
	}
	p.hold(t, renews("next"))
	if e := p.hold(t, appends("a")); e != api.OK || !slices.Equal(p.disk.List(), []int{200, 201}) {
		t.Error(e, p.disk.List())
	}
}

// A log that is full isn't over by it, not even with its disk off.
func TestAFullLogIsNotOver(t *testing.T) {
	p := fullLog(t, 99)
	if e := p.hold(t, appends("none")); e != api.ErrFull || p.log.Pending() != 1 {
		t.Error(e, p.log.Pending())
	}
	if e := p.hold(t, syncs()); e != api.OK || p.log.Pending() != 0 {
		t.Error(e, p.log.Pending())
	}
	p.hold(t, cuts())
	for _, want := range []struct {
		c call
		e api.Errno
	}{{appends("none"), api.ErrFull}, {syncs(), api.ErrDown}, {appends("none"), api.ErrOver}} {
		if e := p.hold(t, want.c); e != want.e {
			t.Error(want.c, e)
		}
	}
}

// TestSegmentsOneBehindTheOther has records of all sizes, many of them.
func TestSegmentsOneBehindTheOther(t *testing.T) {
	p := begun(t)
	var want []string
	for i := 1; i <= 150; i++ {
		s := strings.Repeat(fmt.Sprint(i%10), i)
		p.hold(t, appends(s))
		want = append(want, s)
		if i%17 == 0 {
			p.hold(t, syncs())
		}
	}
	p.hold(t, opens())
	if !slices.Equal(p.log.Records(), want) {
		t.Error(listed(p.log.Records()))
	}
	all := ""
	for _, no := range p.disk.List()[1:] {
		s := p.read(no)
		all += s
		if no != 100+len(p.disk.List())-1 && (len(s) < 600 || len(s) >= 600+8+150) {
			t.Errorf("segment %d has %d bytes", no, len(s))
		}
	}
	if all != framed(want...) {
		t.Error(len(all))
	}
}

// P11.3: Sync

func TestSync(t *testing.T) {
	p := begun(t)
	for _, c := range []struct {
		c       call
		steps   int
		pending int
		safe    int
	}{
		{syncs(), 0, 0, 0},
		{appends("a"), 1, 1, 0},
		{syncs(), 1, 0, 9},
		{syncs(), 1, 0, 9},
		{appends("b"), 1, 1, 9},
		{appends("c"), 1, 2, 9},
		{syncs(), 1, 0, 27},
		{opens(), 1, 0, 27},
		{syncs(), 1, 0, 27},
	} {
		ahead := p.disk.Steps()
		e := p.hold(t, c.c)
		if e != api.OK || p.disk.Steps()-ahead != c.steps || p.log.Pending() != c.pending || p.disk.Safe(101) != c.safe {
			t.Errorf("%v = %d, %d steps, %d pending, %d safe", c.c, e, p.disk.Steps()-ahead, p.log.Pending(), p.disk.Safe(101))
		}
	}
}

// With no segment there is nothing to sync, and no error of the disk.
func TestSyncWithNoSegment(t *testing.T) {
	for _, calls := range [][]call{{}, {appends("a"), renews("text")}, {renews("text"), opens()}} {
		for _, off := range [][]call{{}, {fuses(1)}, {cuts()}} {
			p := begun(t, append(calls, off...)...)
			ahead := p.disk.Steps()
			for range 3 {
				if e := p.hold(t, syncs()); e != api.OK || p.disk.Steps() != ahead {
					t.Error(calls, off, e)
				}
			}
		}
	}
}

func TestSyncWithEachErrorOfTheDisk(t *testing.T) {
	for _, calls := range [][]call{
		{},
		{appends("a")},
		{appends("a"), appends("b")},
		{appends("a"), syncs()},
		{appends("a"), syncs(), appends("b")},
		{appends(sized(600))},
		{appends(sized(600)), appends("b")},
		{renews("text"), appends("a")},
	} {
		holdEach(t, func() *pair { return begun(t, calls...) }, syncs())
	}
}

// Only the last segment is synced: the others were, ahead of the next one.
func TestSyncOfTheLastSegment(t *testing.T) {
	p := begun(t, appends(sized(600)), appends(sized(600)), appends("c"), syncs(), cuts(), starts(), opens())
	if len(p.log.Records()) != 3 {
		t.Error(listed(p.log.Records()))
	}
}
