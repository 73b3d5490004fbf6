package wal

import (
	"slices"
	"strings"
	"testing"

	"platbook/api"
	"platbook/disk"
	"platbook/frame"
)

func TestExample(t *testing.T) {
	for stays := range 10 {
		p := ran(t, formats(), opens())
		if p.log.Text() != "" || len(p.log.Records()) != 0 {
			t.Fatal(p.log.Text(), p.log.Records())
		}
		for _, c := range []call{appends("a"), syncs(), appends("b"), cuts(), starts(stays), opens()} {
			if e := p.hold(t, c); e != api.OK {
				t.Fatal(c, e)
			}
		}
		want := []string{"a"}
		if stays == 9 {
			want = []string{"a", "b"}
		}
		if got := p.log.Records(); !slices.Equal(got, want) || p.log.Text() != "" {
			t.Errorf("%d bytes stay: %q", stays, got)
		}
	}
}

func TestLimits(t *testing.T) {
	if Segment != 600 {
		t.Error(Segment)
	}
}

// TestFrames holds the frames of these tests against those of package frame.
func TestFrames(t *testing.T) {
	for _, s := range []string{"", "a", "abc", strings.Repeat("x", 65536)} {
		if got, e := frame.Of(s); got != framed(s) || e != api.OK {
			t.Error(shown(s), shown(got), e)
		}
	}
}

// A log, and a disk, that isn't there.

func TestNil(t *testing.T) {
	if e := Format(nil); e != api.ErrNil {
		t.Error(e)
	}
	if l, e := Open(nil); l != nil || e != api.ErrNil {
		t.Error(l, e)
	}
	var l *Log
	for _, s := range []string{"", "a", most(), most() + "x"} {
		if a, r := l.Append(s), l.Renew(s); a != api.ErrNil || r != api.ErrNil {
			t.Error(shown(s), a, r)
		}
	}
	if e := l.Sync(); e != api.ErrNil {
		t.Error(e)
	}
	if l.Text() != "" || len(l.Records()) != 0 || l.Generation() != 0 || l.Pending() != 0 {
		t.Error(l.Text(), l.Records(), l.Generation(), l.Pending())
	}
}

// most is as long as a record may be.
func most() string {
	return strings.Repeat("0123456789abcdef", 4096)
}

// P11.1: Format

// shelves are disks of all kinds: without files, with those of logs, and with
// those of others.
func shelves() []map[int]string {
	many := map[int]string{}
	for i := range 110 {
		many[1+i*9090] = strings.Repeat("x", i)
	}
	return []map[int]string{
		{},
		{100: framed("")},
		{100: framed(""), 101: framed("a", "b"), 102: framed("c") + bar + framed("d")},
		{100: bar + framed("torn")[:9]},
		{200: framed("text"), 201: framed("a") + bar + "b"},
		{100: framed("old"), 101: framed("a"), 200: framed("new") + bar, 201: framed("b")},
		{999900: framed("last one"), 999999: framed("z")},
		{1: "one", 99: bar + "ninety-nine", 1000000: "a million", 4242: ""},
		{1: framed("x"), 100: "odd", 101: framed("a"), 150: framed("b"), 1000000: bar + framed("y")},
		many,
	}
}

func TestFormat(t *testing.T) {
	for _, files := range shelves() {
		made := func() *pair { return laidOut(t, files) }
		if n := steps(t, made, formats()); n != len(files)+2 {
			t.Errorf("%d files: %d steps", len(files), n)
		}
		holdEach(t, made, formats())
	}
}

func TestFormatLeaves(t *testing.T) {
	for _, files := range shelves() {
		p := laidOut(t, files)
		if e := p.hold(t, formats()); e != api.OK {
			t.Fatal(e)
		}
		s, found := p.disk.Read(100)
		if s != "\x00\x00\x00\x00"+framed("")[4:] || !found || p.disk.Safe(100) != 8 || !slices.Equal(p.disk.List(), []int{100}) {
			t.Errorf("%q, %v, %d, %v", s, found, p.disk.Safe(100), p.disk.List())
		}
		p.hold(t, opens())
		if p.log.Generation() != 1 || p.log.Text() != "" || len(p.log.Records()) != 0 || p.log.Pending() != 0 {
			t.Error(p.log)
		}
	}
}

// TestFormatRemovesByRisingNumbers has the power go behind so many files.
func TestFormatRemovesByRisingNumbers(t *testing.T) {
	files := map[int]string{3: "x", 100: framed(""), 101: framed("a"), 700: "", 1000000: "y"}
	all := []int{3, 100, 101, 700, 1000000}
	for i := range all {
		p := laidOut(t, files)
		p.hold(t, fuses(i+1))
		if e := p.hold(t, formats()); e != api.ErrDown || !slices.Equal(p.disk.List(), all[i:]) {
			t.Error(i, e, p.disk.List())
		}
	}
	for i, safe := range []int{0, 0, 8} {
		p := laidOut(t, files)
		p.hold(t, fuses(len(all)+1+i))
		e := p.hold(t, formats())
		if (e == api.OK) != (i == 2) || !slices.Equal(p.disk.List(), []int{100}) || p.disk.Safe(100) != safe {
			t.Error(i, e, p.disk.List(), p.disk.Safe(100))
		}
	}
}

func TestFormatOfADiskThatIsOff(t *testing.T) {
	for _, files := range shelves() {
		p := laidOut(t, files)
		p.hold(t, cuts())
		if e := p.hold(t, formats()); e != api.ErrDown || len(p.disk.List()) != len(files) {
			t.Error(e, p.disk.List())
		}
	}
}

// What is answered is new memory, and what is handed in isn't kept.

func TestRecordsAreNewMemory(t *testing.T) {
	p := ran(t, formats(), opens(), appends("a"), appends("b"), syncs(), opens(), appends("c"))
	first, second := p.log.Records(), p.log.Records()
	first[0], first[1], first[2] = "x", "y", "z"
	first = append(first[:1], "w")
	if want := []string{"a", "b", "c"}; !slices.Equal(second, want) || !slices.Equal(p.log.Records(), want) {
		t.Error(second, p.log.Records())
	}
	_ = append(second, "spare")
	_ = append(p.log.Records(), "spare")
	p.hold(t, appends("d"))
	clear(p.log.Records())
	p.hold(t, appends("e"))
	if want := []string{"a", "b", "c", "d", "e"}; !slices.Equal(p.log.Records(), want) || !slices.Equal(second, want[:3]) {
		t.Error(second, p.log.Records())
	}
}

func TestRecordsOfAnOldAnswerStay(t *testing.T) {
	p := ran(t, formats(), opens())
	var answers [][]string
	for i := range 40 {
		answers = append(answers, p.log.Records())
		p.hold(t, appends(strings.Repeat("x", i+1)))
	}
	p.hold(t, renews("text"))
	p.hold(t, appends("other"))
	for n, records := range answers {
		if len(records) != n {
			t.Fatal(n, records)
		}
		for i, s := range records {
			if s != strings.Repeat("x", i+1) {
				t.Error(n, i, s)
			}
		}
	}
}

// Two logs, each on a disk of its own, know nothing of each other.
func TestLogsAreApart(t *testing.T) {
	p := ran(t, formats(), opens(), appends("a"))
	q := ran(t, formats(), opens(), appends("x"), renews("text"), appends("y"), cuts(), syncs())
	p.hold(t, appends("b"))
	p.hold(t, syncs())
	q.hold(t, syncs())
	p.hold(t, renews("other"))
}

// Asking is no step of the disk, and changes nothing.
func TestAskingChangesNothing(t *testing.T) {
	p := ran(t, formats(), opens(), appends("a"), syncs(), appends("b"), fuses(1))
	for range 5 {
		p.log.Text()
		p.log.Records()
		p.log.Generation()
		p.log.Pending()
	}
	p.holdLog(t, opens())
	p.holdDisk(t, opens())
}

func TestNothingOfANewDisk(t *testing.T) {
	l, e := Open(disk.New())
	if l != nil || e != api.ErrLost {
		t.Error(l, e)
	}
}
