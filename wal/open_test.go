package wal

import (
	"fmt"
	"maps"
	"slices"
	"strings"
	"testing"

	"platbook/api"
)

// P11.2: Open

// opened is a disk's files, and what Open finds of them.
type opened struct {
	name       string
	files      map[int]string
	generation int // 0: ErrLost
	text       string
	records    []string
	left       map[int]string // what files there are behind it
}

// lost are disks of which no generation is whole.
func lost() []opened {
	list := []opened{
		{name: "no files", files: map[int]string{}},
		{name: "segments without a beginning", files: map[int]string{101: framed("a"), 102: framed("b"), 201: framed("c")}},
		{name: "generation 0", files: map[int]string{1: framed("a"), 99: framed("b"), 50: framed("")}},
		{name: "past the last generation", files: map[int]string{1000000: framed("text")}},
		{name: "a beginning of other numbers", files: map[int]string{101: framed("text"), 110: framed("text"), 199: framed("text"), 999999: framed("text"), 1001: framed("")}},
		{name: "several that are torn", files: map[int]string{100: framed("a")[:8], 200: framed("a", "b"), 300: "", 999900: "x"}},
	}
	for _, s := range notWhole() {
		list = append(list, opened{name: fmt.Sprintf("a beginning %s", shown(s)), files: map[int]string{100: s, 101: framed("a")}})
	}
	return list
}

// notWhole are the files of beginnings that aren't just one frame.
func notWhole() []string {
	list := []string{"x", framed("text", "more"), framed("text", ""), framed("", "text"), framed("text") + "x", "x" + framed("text"), framed("") + "\x00", framed("", "")}
	for n := range framed("text") {
		list = append(list, framed("text")[:n])
	}
	for i := range framed("text") {
		turned := []byte(framed("text"))
		turned[i] ^= 1
		list = append(list, string(turned))
	}
	tooLong := []byte(framed(most() + "x"))
	return append(list, string(tooLong))
}

// found are disks that have one that is whole.
func found() []opened {
	big := strings.Repeat("b", 592)
	return []opened{
		{"just formatted", map[int]string{100: framed("")}, 1, "", nil, map[int]string{100: framed("")}},
		{"a text", map[int]string{700: framed("a text")}, 7, "a text", nil, map[int]string{700: framed("a text")}},
		{"as long a text as may be", map[int]string{100: framed(most())}, 1, most(), nil, map[int]string{100: framed(most())}},
		{"the last generation", map[int]string{999900: framed("end"), 999901: framed("a"), 1000000: framed("y")}, 9999, "end", []string{"a"}, map[int]string{999900: framed("end"), 999901: framed("a")}},
		{"a beginning that isn't safe", map[int]string{100: bar + framed("x")}, 1, "x", nil, map[int]string{100: framed("x")}},
		{"one segment", map[int]string{100: framed("t"), 101: framed("a", "b", "c")}, 1, "t", []string{"a", "b", "c"}, map[int]string{100: framed("t"), 101: framed("a", "b", "c")}},
		{"a segment that isn't safe", map[int]string{100: framed("t"), 101: framed("a") + bar + framed("b")}, 1, "t", []string{"a", "b"}, map[int]string{100: framed("t"), 101: framed("a", "b")}},
		{"a segment without a byte", map[int]string{100: framed("t"), 101: ""}, 1, "t", nil, map[int]string{100: framed("t"), 101: ""}},
		{"a segment without a byte in between", map[int]string{100: framed("t"), 101: "", 102: framed("a"), 103: ""}, 1, "t", []string{"a"}, map[int]string{100: framed("t"), 101: "", 102: framed("a"), 103: ""}},
		{"empty records", map[int]string{100: framed("t"), 101: framed("", "a", ""), 102: framed("")}, 1, "t", []string{"", "a", "", ""}, map[int]string{100: framed("t"), 101: framed("", "a", ""), 102: framed("")}},
		{"several segments, none full", map[int]string{100: framed("t"), 101: framed("a"), 102: framed("b"), 103: framed("c")}, 1, "t", []string{"a", "b", "c"}, map[int]string{100: framed("t"), 101: framed("a"), 102: framed("b"), 103: framed("c")}},
		{"full segments", map[int]string{100: framed("t"), 101: framed(big), 102: framed(big, "x")}, 1, "t", []string{big, big, "x"}, map[int]string{100: framed("t"), 101: framed(big), 102: framed(big, "x")}},
		{"the first segment missing", map[int]string{100: framed("t"), 102: framed("b"), 103: framed("c")}, 1, "t", nil, map[int]string{100: framed("t")}},
		{"segments missing in between", map[int]string{100: framed("t"), 101: framed("a"), 102: framed("b"), 104: framed("d"), 106: framed("f")}, 1, "t", []string{"a", "b"}, map[int]string{100: framed("t"), 101: framed("a"), 102: framed("b")}},
		{"the last segment torn", map[int]string{100: framed("t"), 101: framed("a"), 102: framed("b", "c")[:17]}, 1, "t", []string{"a", "b"}, map[int]string{100: framed("t"), 101: framed("a"), 102: framed("b")}},
		{"a segment of other bytes", map[int]string{100: framed("t"), 101: framed("a"), 102: "other bytes"}, 1, "t", []string{"a"}, map[int]string{100: framed("t"), 101: framed("a"), 102: ""}},
		{"other bytes ahead of further segments", map[int]string{100: framed("t"), 101: framed("a"), 102: framed("b") + "other" + framed("x"), 103: framed("c"), 104: framed("d")}, 1, "t", []string{"a", "b"}, map[int]string{100: framed("t"), 101: framed("a"), 102: framed("b")}},
		{"other bytes in the first one ahead of others", map[int]string{100: framed("t"), 101: "x", 102: framed("b")}, 1, "t", nil, map[int]string{100: framed("t"), 101: ""}},
		{"other bytes that aren't safe", map[int]string{100: framed("t"), 101: framed("a") + bar + "x", 102: framed("b")}, 1, "t", []string{"a"}, map[int]string{100: framed("t"), 101: framed("a")}},
		{"files of others", map[int]string{1: framed("x"), 99: framed("y"), 100: framed("t"), 101: framed("a"), 5000: "z", 5001: framed("z"), 1000000: framed("w")}, 1, "t", []string{"a"}, map[int]string{100: framed("t"), 101: framed("a")}},
		{"two that are whole", map[int]string{100: framed("old"), 101: framed("a"), 200: framed("new"), 201: framed("b")}, 2, "new", []string{"b"}, map[int]string{200: framed("new"), 201: framed("b")}},
		{"two that are whole, the newer one without segments", map[int]string{100: framed("old"), 101: framed("a"), 102: framed("b"), 200: framed("")}, 2, "", nil, map[int]string{200: framed("")}},
		{"two that are far apart", map[int]string{100: framed("old"), 101: framed("a"), 999900: framed("new"), 999901: framed("b")}, 9999, "new", []string{"b"}, map[int]string{999900: framed("new"), 999901: framed("b")}},
		{"the newest one torn of three", map[int]string{300: framed("oldest"), 900: framed("old"), 901: framed("a"), 1200: framed("new")[:9], 1201: framed("b")}, 9, "old", []string{"a"}, map[int]string{900: framed("old"), 901: framed("a")}},
		{"the newer one's beginning missing", map[int]string{100: framed("old"), 101: framed("a"), 201: framed("b")}, 1, "old", []string{"a"}, map[int]string{100: framed("old"), 101: framed("a")}},
		{"a beginning past the last generation", map[int]string{100: framed("old"), 1000000: framed("new")}, 1, "old", nil, map[int]string{100: framed("old")}},
	}
}

// olderOnes are disks whose newer generation isn't whole, in each way.
func olderOnes() []opened {
	var list []opened
	for _, s := range notWhole() {
		list = append(list, opened{
			"a newer beginning " + shown(s),
			map[int]string{100: framed("old"), 101: framed("a", "b"), 200: s, 201: framed("c")}, 1, "old", []string{"a", "b"},
			map[int]string{100: framed("old"), 101: framed("a", "b")},
		})
	}
	return list
}

func TestOpenFinds(t *testing.T) {
	for _, o := range slices.Concat(found(), olderOnes()) {
		p := laidOut(t, o.files)
		if e := p.hold(t, opens()); e != api.OK {
			t.Fatal(o.name, e)
		}
		l := p.log
		if l.Generation() != o.generation || l.Text() != o.text || l.Pending() != 0 || !slices.Equal(l.Records(), o.records) {
			t.Errorf("%s: generation %d, text %s, records %s, pending %d", o.name, l.Generation(), shown(l.Text()), listed(l.Records()), l.Pending())
		}
		left := map[int]string{}
		for _, no := range p.disk.List() {
			left[no], _ = p.disk.Read(no)
		}
		if !maps.Equal(left, o.left) {
			t.Errorf("%s: files %v", o.name, p.disk.List())
		}
		p.hold(t, opens())
		p.hold(t, opens())
	}
}

func TestOpenOfWhatIsLost(t *testing.T) {
	for _, o := range lost() {
		p := laidOut(t, o.files)
		ahead := p.disk.Steps()
		if e := p.hold(t, opens()); e != api.ErrLost || p.log != nil {
			t.Error(o.name, e, p.log)
		}
		if p.disk.Steps() != ahead || len(p.disk.List()) != len(o.files) {
			t.Error(o.name, p.disk.Steps(), p.disk.List())
		}
		p.hold(t, opens())
	}
}

func TestOpenWithEachErrorOfTheDisk(t *testing.T) {
	for _, o := range slices.Concat(found(), lost()[:6], olderOnes()[:12]) {
		made := func() *pair { return laidOut(t, o.files) }
		holdEach(t, made, opens())
	}
}

// TestOpenIsThatManySteps tells which steps they are: the others' removal, a
// trim if there is something to trim, a sync if there is a segment.
func TestOpenIsThatManySteps(t *testing.T) {
	for _, c := range []struct {
		files map[int]string
		want  int
	}{
		{map[int]string{100: framed("")}, 0},
		{map[int]string{100: framed(""), 101: framed("a")}, 1},
		{map[int]string{100: framed(""), 101: ""}, 1},
		{map[int]string{100: framed(""), 101: "x"}, 2},
		{map[int]string{100: framed(""), 101: framed("a"), 102: framed("b")}, 1},
		{map[int]string{100: framed(""), 101: framed("a") + "x", 102: framed("b")}, 3},
		{map[int]string{100: framed(""), 102: framed("b")}, 1},
		{map[int]string{1: "", 100: framed(""), 200: "x", 1000000: ""}, 3},
	} {
		p := laidOut(t, c.files)
		ahead := p.disk.Steps()
		p.hold(t, opens())
		if n := p.disk.Steps() - ahead; n != c.want {
			t.Errorf("%v: %d steps, want %d", c.files, n, c.want)
		}
	}
}

// TestOpenRemovesByRisingNumbers has the power go by each step.
func TestOpenRemovesByRisingNumbers(t *testing.T) {
	files := map[int]string{7: "x", 100: framed("t"), 101: framed("a") + "x", 102: framed("b"), 150: "y", 300: "z", 1000000: framed("w")}
	all := []int{7, 100, 101, 102, 150, 300, 1000000}
	others := []int{7, 102, 150, 300, 1000000}
	for i := range others {
		p := laidOut(t, files)
		p.hold(t, fuses(i+1))
		want := slices.DeleteFunc(slices.Clone(all), func(no int) bool { return slices.Contains(others[:i], no) })
		if e := p.hold(t, opens()); e != api.ErrDown || p.log != nil || !slices.Equal(p.disk.List(), want) {
			t.Error(i, e, p.disk.List())
		}
	}
	for i, size := range []int{10, 9, 9} { // ahead of the trim, of the sync, and behind it
		p := laidOut(t, files)
		p.hold(t, fuses(len(others)+1+i))
		e := p.hold(t, opens())
		p.disk.Cut()
		p.disk.Start(nil)
		s, _ := p.disk.Read(101)
		if (e == api.OK) != (i == 2) || len(s) != size || !slices.Equal(p.disk.List(), []int{100, 101}) {
			t.Error(i, e, s, p.disk.List())
		}
	}
}

// TestOpenSyncs has a loss of power behind it that leaves nothing of tails.
func TestOpenSyncs(t *testing.T) {
	p := laidOut(t, map[int]string{100: framed("t"), 101: framed("a") + bar + framed("b", "c") + "x"})
	for _, c := range []call{opens(), cuts(), starts(), opens()} {
		p.hold(t, c)
	}
	if !slices.Equal(p.log.Records(), []string{"a", "b", "c"}) {
		t.Error(p.log.Records())
	}
}

// A disk that is off can't be read: its error is told, not that all is lost.
func TestOpenOfADiskThatIsOff(t *testing.T) {
	for _, o := range slices.Concat(found(), lost()[:6]) {
		p := laidOut(t, o.files)
		p.hold(t, cuts())
		if e := p.hold(t, opens()); e != api.ErrDown || p.log != nil {
			t.Error(o.name, e)
		}
	}
}

// TestOpenGoesOn has the calls of the log on what was found.
func TestOpenGoesOn(t *testing.T) {
	for _, o := range slices.Concat(found(), olderOnes()[:12]) {
		p := laidOut(t, o.files)
		p.hold(t, opens())
		for _, c := range []call{syncs(), appends("x"), appends("y"), syncs(), appends(strings.Repeat("z", 600)), appends("w"), renews("next"), appends("v"), opens()} {
			p.hold(t, c)
		}
	}
}

// TestOpenOfAsManySegmentsAsThereMayBe has the next generation's beginning, torn,
// right behind the last segment.
func TestOpenOfAsManySegmentsAsThereMayBe(t *testing.T) {
	files := map[int]string{100: framed("t"), 200: "torn", 201: framed("other")}
	var want []string
	for k := 1; k <= 99; k++ {
		s := fmt.Sprint("record ", k)
		files[100+k] = framed(s)
		want = append(want, s)
	}
	p := laidOut(t, files)
	p.hold(t, opens())
	if !slices.Equal(p.log.Records(), want) || len(p.disk.List()) != 100 {
		t.Error(listed(p.log.Records()), p.disk.List())
	}
	for _, c := range []call{appends("more"), appends(strings.Repeat("x", 600)), appends("none"), syncs(), opens(), appends("none"), renews("t"), appends("x")} {
		p.hold(t, c)
	}
}
