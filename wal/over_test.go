package wal

import (
	"slices"
	"strings"
	"testing"

	"platbook/api"
)

// P11.5: a log that is over

// ended are calls by which a log is over, each by an error of the disk.
func ended() []struct {
	calls []call
	last  call
	want  api.Errno
} {
	return []struct {
		calls []call
		last  call
		want  api.Errno
	}{
		{[]call{cuts()}, appends("x"), api.ErrDown},
		{[]call{cuts()}, renews("x"), api.ErrDown},
		{[]call{appends("a"), cuts()}, syncs(), api.ErrDown},
		{[]call{appends("a"), syncs(), appends("b"), appends("c"), cuts()}, syncs(), api.ErrDown},
		{[]call{appends("a"), syncs(), appends("b"), fuses(1)}, appends("c"), api.ErrDown},
		{[]call{appends("a"), appends("b"), fuses(1)}, renews("x"), api.ErrDown},
		{[]call{appends("a"), appends("b"), fuses(2)}, renews("x"), api.ErrDown},
		{[]call{appends("a"), appends("b"), fuses(3)}, renews("x"), api.ErrDown},
		{[]call{appends("a"), appends("b"), fuses(4)}, renews("x"), api.ErrDown},
		{[]call{renews("text"), appends(sized(600)), fuses(1)}, appends("b"), api.ErrDown},
		{[]call{renews("text"), appends("a"), appends(sized(600)), fuses(2)}, appends("b"), api.ErrDown},
		// what others did to the disk
		{[]call{appends("a"), unlinks(101)}, syncs(), api.ErrNone},
		{[]call{appends(sized(600)), unlinks(101)}, appends("b"), api.ErrNone},
		{[]call{appends("a"), lays(101, bytesOf(1048576-9-8))}, appends("b"), api.ErrLong},
		{[]call{appends("a"), lays(200, bytesOf(1048576-11))}, renews("text"), api.ErrLong},
	}
}

// bytesOf is so many bytes.
func bytesOf(size int) string {
	return strings.Repeat("x", size)
}

func TestOver(t *testing.T) {
	for _, c := range ended() {
		p := begun(t, c.calls...)
		text, records, generation := p.log.Text(), p.log.Records(), p.log.Generation()
		if e := p.hold(t, c.last); e != c.want {
			t.Fatal(c.calls, c.last, e)
		}
		holdOver(t, p)
		if p.log.Text() != text || !slices.Equal(p.log.Records(), records) || p.log.Generation() != generation {
			t.Errorf("%v, %v: %v", c.calls, c.last, p.log)
		}
		if !p.disk.On() {
			p.hold(t, starts())
		}
		holdOver(t, p)
		p.hold(t, opens())
		for _, c := range []call{appends("goes"), syncs(), renews("on")} {
			p.hold(t, c)
		}
	}
}

// holdOver holds that a log is over: no call is a step of the disk any more.
func holdOver(t *testing.T, p *pair) {
	t.Helper()
	ahead := p.disk.Steps()
	for _, c := range []struct {
		c    call
		want api.Errno
	}{
		{appends("x"), api.ErrOver},
		{syncs(), api.ErrOver},
		{renews("x"), api.ErrOver},
		{renews(""), api.ErrOver},
		{appends(""), api.ErrLong},
		{appends(most()), api.ErrOver},
		{appends(most() + "x"), api.ErrLong},
		{renews(most()), api.ErrOver},
		{renews(most() + "x"), api.ErrLong},
	} {
		if e := p.hold(t, c.c); e != c.want {
			t.Errorf("%v = %d, want %d", c.c, e, c.want)
		}
	}
	if p.disk.Steps() != ahead {
		t.Error(p.disk.Steps(), ahead)
	}
}

// A disk without room for a file more ends a log, too; the chapter's own
// ErrFull doesn't.
func TestOverByADiskThatIsFull(t *testing.T) {
	for _, c := range []struct {
		calls []call
		last  call
	}{{nil, appends("a")}, {nil, renews("text")}, {[]call{appends(sized(600))}, appends("b")}} {
		p := begun(t, c.calls...)
		for no := 5000; len(p.disk.List()) < 110; no++ {
			p.hold(t, lays(no, ""))
		}
		if e := p.hold(t, c.last); e != api.ErrFull {
			t.Fatal(c, e)
		}
		holdOver(t, p)
		p.hold(t, opens())
		p.hold(t, c.last)
	}
}

// A log that is full, and over: it is over.
func TestOverAheadOfFull(t *testing.T) {
	p := fullLog(t, 99)
	p.hold(t, cuts())
	p.hold(t, syncs())
	holdOver(t, p)
	p = laidOut(t, map[int]string{999900: framed("text"), 999901: framed("a")})
	for _, c := range []call{opens(), cuts(), syncs()} {
		p.hold(t, c)
	}
	holdOver(t, p)
}

// What was answered by an argument alone ends nothing.
func TestNotOver(t *testing.T) {
	p := begun(t)
	for _, c := range []call{appends(""), appends(most() + "x"), renews(most() + "x"), appends("a"), syncs(), renews("b"), appends("c")} {
		p.hold(t, c)
	}
	if p.log.Generation() != 2 || p.log.Pending() != 1 {
		t.Error(p.log)
	}
}
