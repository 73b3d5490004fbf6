package wal

import (
	"slices"
	"testing"

	"platbook/api"
)

// P11.4: Renew

// befores are calls ahead of a renewal: with no segment, with one and with
// several, pending and not.
func befores() [][]call {
	return [][]call{
		{},
		{appends("a")},
		{appends("a"), syncs()},
		{appends("a"), syncs(), appends("b"), appends("c")},
		{appends(sized(600)), appends(sized(600)), appends(sized(700)), appends("d")},
		{appends(sized(600)), appends("b"), syncs(), opens()},
		{renews("first"), appends("a")},
		{renews("first"), renews(""), renews("third"), appends(sized(600)), appends("b")},
	}
}

func TestRenew(t *testing.T) {
	for _, calls := range befores() {
		for _, text := range []string{"", "a", "a text", "\x00\xff", most()[1:], most()} {
			p := begun(t, calls...)
			next, ahead, files := p.log.Generation()+1, p.disk.Steps(), len(p.disk.List())
			if e := p.hold(t, renews(text)); e != api.OK {
				t.Fatal(calls, shown(text), e)
			}
			if p.log.Text() != text || len(p.log.Records()) != 0 || p.log.Generation() != next || p.log.Pending() != 0 {
				t.Errorf("%v, then %s: %v", calls, shown(text), p.log)
			}
			if p.read(100*next) != framed(text) || p.disk.Safe(100*next) != 8+len(text) || !slices.Equal(p.disk.List(), []int{100 * next}) {
				t.Errorf("%v, then %s: files %v", calls, shown(text), p.disk.List())
			}
			if n := p.disk.Steps() - ahead; n != 2+files {
				t.Errorf("%v, then %s: %d steps", calls, shown(text), n)
			}
			for _, c := range []call{cuts(), starts(), opens(), appends("x"), syncs(), opens()} {
				p.hold(t, c)
			}
		}
	}
}

func TestRenewOfTooMuch(t *testing.T) {
	for _, calls := range befores() {
		p := begun(t, calls...)
		ahead := p.disk.Steps()
		for _, text := range []string{most() + "x", most() + most()} {
			if e := p.hold(t, renews(text)); e != api.ErrLong || p.disk.Steps() != ahead {
				t.Error(calls, e)
			}
		}
		if e := p.hold(t, renews(most())); e != api.OK {
			t.Error(calls, e)
		}
	}
}

func TestRenewWithEachErrorOfTheDisk(t *testing.T) {
	for _, calls := range befores() {
		holdEach(t, func() *pair { return begun(t, calls...) }, renews("the next one"))
	}
}

// TestRenewRemovesByFallingNumbers has the power go by each step.
func TestRenewRemovesByFallingNumbers(t *testing.T) {
	for fuse, want := range []struct {
		files []int
		safe  int
	}{
		{[]int{200}, 12},
		{[]int{100, 101, 102, 103, 200}, 0},
		{[]int{100, 101, 102, 103, 200}, 0},
		{[]int{100, 101, 102, 103, 200}, 12},
		{[]int{100, 101, 102, 200}, 12},
		{[]int{100, 101, 200}, 12},
		{[]int{100, 200}, 12},
		{[]int{200}, 12},
	} {
		p := fullLog(t, 3)
		p.hold(t, fuses(fuse))
		p.hold(t, renews("text"))
		if !slices.Equal(p.disk.List(), want.files) || p.disk.Safe(200) != want.safe {
			t.Errorf("a fuse of %d: files %v, %d safe", fuse, p.disk.List(), p.disk.Safe(200))
		}
	}
}

// TestRenewAtTheLastGeneration comes to 9999 by one renewal.
func TestRenewAtTheLastGeneration(t *testing.T) {
	p := laidOut(t, map[int]string{999800: framed("the last but one"), 999801: framed("a")})
	p.hold(t, opens())
	if e := p.hold(t, renews("the last one")); e != api.OK || p.log.Generation() != 9999 {
		t.Fatal(e, p.log.Generation())
	}
	p.hold(t, appends("b"))
	for range 2 {
		ahead := p.disk.Steps()
		for _, want := range []struct {
			text string
			e    api.Errno
		}{{"", api.ErrFull}, {"more", api.ErrFull}, {most(), api.ErrFull}, {most() + "x", api.ErrLong}} {
			if e := p.hold(t, renews(want.text)); e != want.e || p.disk.Steps() != ahead {
				t.Error(shown(want.text), e)
			}
		}
		p.hold(t, opens())
	}
	for _, c := range []call{appends("c"), syncs(), appends(sized(600)), appends("d")} {
		if e := p.hold(t, c); e != api.OK {
			t.Error(c, e)
		}
	}
	p.hold(t, cuts())
	if e := p.hold(t, renews("x")); e != api.ErrFull {
		t.Error(e)
	}
	p.hold(t, syncs())
	if e := p.hold(t, renews("x")); e != api.ErrOver {
		t.Error(e)
	}
}

// A log that is full may be renewed: there is room for the next beginning.
func TestRenewOfAFullLog(t *testing.T) {
	p := fullLog(t, 99)
	p.hold(t, appends("none"))
	if e := p.hold(t, renews("text")); e != api.OK {
		t.Error(e)
	}
	p.hold(t, appends("a"))
}

// Files of others stay, but those whose numbers are the present generation's.
func TestRenewLeavesOthers(t *testing.T) {
	p := begun(t, appends("a"), lays(7, "x"), lays(99, "y"), lays(150, "z"), lays(199, "z"), lays(300, "w"), lays(201, framed("v")), lays(1000000, ""))
	if e := p.hold(t, renews("text")); e != api.OK {
		t.Fatal(e)
	}
	if want := []int{7, 99, 200, 201, 300, 1000000}; !slices.Equal(p.disk.List(), want) {
		t.Error(p.disk.List())
	}
}

// What is gone already needs no removal.
func TestRenewOfALogWhoseFilesAreGone(t *testing.T) {
	p := begun(t, appends(sized(600)), appends("b"), unlinks(101), unlinks(100))
	if e := p.hold(t, renews("text")); e != api.OK || !slices.Equal(p.disk.List(), []int{200}) {
		t.Error(e, p.disk.List())
	}
	p.hold(t, opens())
}

func TestRenewManyTimes(t *testing.T) {
	p := begun(t)
	for i := range 300 {
		p.hold(t, appends("record"))
		p.hold(t, renews(most()[:i]))
	}
	if p.log.Generation() != 301 {
		t.Error(p.log.Generation())
	}
	p.hold(t, opens())
}
