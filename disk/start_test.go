package disk

import (
	"math"
	"slices"
	"strings"
	"testing"

	"platbook/api"
)

// P9.3: what a start leaves

// withTails is a disk of these tails, each behind the same safe part: the files
// have the numbers 10, 20 and so on, laid from the last one on.
func withTails(t *testing.T, tails ...string) (*Disk, *model) {
	t.Helper()
	d, m := New(), &model{}
	for i := len(tails) - 1; i >= 0; i-- {
		no := 10 * (i + 1)
		for _, c := range []call{appends(no, "<"), appends(no, ">"), syncs(no), appends(no, tails[i])} {
			holdCall(t, d, m, c)
		}
	}
	holdCall(t, d, m, cuts())
	return d, m
}

// texts are those between blanks; a dash is none.
func texts(s string) []string {
	list := strings.Fields(s)
	for i := range list {
		list[i] = strings.Trim(list[i], "-")
	}
	return list
}

func TestStartByItsWords(t *testing.T) {
	for _, c := range []struct {
		tails string
		picks []int
		want  string
	}{
		{"abc", nil, "-"},
		{"abc", []int{}, "-"},
		{"abc", []int{0}, "-"},
		{"abc", []int{1}, "a"},
		{"abc", []int{2}, "ab"},
		{"abc", []int{3}, "abc"},
		{"abc", []int{4}, "-"},
		{"abc", []int{5}, "a"},
		{"abc", []int{7}, "abc"},
		{"abc", []int{8}, "-"},
		{"abc", []int{-1}, "-"},
		{"abc", []int{-2}, "-"},
		{"abc", []int{math.MinInt}, "-"},
		{"abc", []int{math.MaxInt}, "abc"}, // 2^63 - 1 is 3 modulo 4
		{"abcd", []int{math.MaxInt}, "ab"}, // and 2 modulo 5
		{"abc", []int{2, 1}, "ab"},
		{"a", []int{1}, "a"},
		{"a", []int{2}, "-"},
		{"a", []int{3}, "a"},
		{"-", []int{3}, "-"},
		{"abc def ghi", nil, "- - -"},
		{"abc def ghi", []int{1}, "a d g"},
		{"abc def ghi", []int{1, 2}, "a de g"},
		{"abc def ghi", []int{1, 2, 3}, "a de ghi"},
		{"abc def ghi", []int{1, 2, 3, 0}, "a de ghi"},
		{"abc def ghi", []int{-4, 2}, "- de -"},
		{"abc def ghi", []int{5, 0, -1}, "a - -"},
		{"abc def ghi j", []int{1, 2, 3}, "a de ghi j"},
		{"abc def ghi j k", []int{1, 2, 3}, "a de ghi j -"},
		{"abc - def", []int{1, 2}, "a - de"},
		{"- abc - def -", []int{1, 2}, "- a - de -"},
		{"- - abc def ghi", []int{3, 2, 1}, "- - abc de g"},
		{"- abc def - - ghi jkl", []int{3, 1}, "- abc d - - ghi j"},
		{"- -", []int{1}, "- -"},
		{"ab abcd abcdefgh", []int{7}, "a ab abcdefg"}, // 7 modulo 3, 5, 9
	} {
		d, m := withTails(t, texts(c.tails)...)
		holdCall(t, d, m, starts(c.picks...))
		for i, want := range texts(c.want) {
			want = "<>" + want
			no := 10 * (i + 1)
			if s, found := d.Read(no); s != want || !found || d.Safe(no) != len(want) {
				t.Errorf("%s by %v: Read(%d) = %q, %v, %d safe, want %q", c.tails, c.picks, no, s, found, d.Safe(no), want)
			}
		}
		holdInside(t, d, m)
	}
}

// TestStartOfEachPick has a tail of each length with each pick.
func TestStartOfEachPick(t *testing.T) {
	for size := range 9 {
		for pick := -3; pick < 30; pick++ {
			d, m := withTails(t, "abcdefgh"[:size], "x")
			holdCall(t, d, m, starts(pick))
			holdInside(t, d, m)
		}
	}
}

func TestStartOfFilesOfAllKinds(t *testing.T) {
	made := []call{
		appends(1, ""), appends(2, "abc"), appends(3, "abc"), syncs(3), appends(4, "abc"), syncs(4), appends(4, "def"),
		appends(5, "abc"), syncs(5), appends(5, "def"), trims(5, 3), appends(6, "abc"), syncs(6), trims(6, 1), appends(6, "xyz"),
		appends(7, "gone"), removes(7), appends(8, ""), syncs(8), appends(8, ""), appends(1000000, "last"),
	}
	for _, picks := range [][]int{nil, {1}, {2, 1}, {3, 2, 1}, {1, 2, 3, 4}, {9, -1, 6}} {
		d, m := ran(t, append(made, cuts(), starts(picks...))...)
		holdInside(t, d, m)
		for _, no := range d.List() {
			if s, _ := d.Read(no); len(s) != d.Safe(no) {
				t.Errorf("by %v: of file %d %d bytes are safe of %d", picks, no, d.Safe(no), len(s))
			}
		}
	}
}

func TestStartWhileItIsOn(t *testing.T) {
	for _, picks := range [][]int{nil, {}, {1}, {-1}, {1, 2, 3}} {
		for _, made := range [][]call{{}, {appends(1, "abc"), syncs(1), appends(1, "def"), fuses(2)}, {appends(1, "abc"), cuts(), starts(1), appends(1, "tail"), fuses(1)}} {
			d, m := ran(t, made...)
			if e := d.Start(picks); e != api.ErrBusy || !d.On() {
				t.Errorf("behind %v: Start(%v) = %d, on: %v", made, picks, e, d.On())
			}
			holdInside(t, d, m)
		}
	}
}

func TestStartOfADiskWithoutFiles(t *testing.T) {
	for _, picks := range [][]int{nil, {}, {1}, {-1, 4}} {
		d, m := ran(t, cuts(), starts(picks...))
		holdInside(t, d, m)
		holdCall(t, d, m, appends(1, "abc"))
		holdInside(t, d, m)
	}
}

// TestStartOfManyTails has as many as there may be, by rising numbers however
// they came.
func TestStartOfManyTails(t *testing.T) {
	r := newRand(5)
	for _, count := range []int{1, 2, 7, 109, 110, 111, 200} {
		d, m := New(), &model{}
		for _, i := range r.Perm(MaxFiles) {
			no := 1 + i*9090
			holdCall(t, d, m, appends(no, drawn(r, r.IntN(3))))
			if i%3 == 0 {
				holdCall(t, d, m, syncs(no))
				holdCall(t, d, m, appends(no, drawn(r, r.IntN(9))))
			}
		}
		var picks []int
		for range count {
			picks = append(picks, r.IntN(20)-4)
		}
		holdCall(t, d, m, cuts())
		holdCall(t, d, m, starts(picks...))
		holdInside(t, d, m)
	}
}

func TestStartOfLargeTails(t *testing.T) {
	for _, p := range []int{0, 1, 1<<20 - 4, 1<<20 - 3, 1<<20 - 2, 1 << 20, 1<<20 + 1, 1 << 40} {
		d, m := ran(t, appends(1, "abc"), syncs(1), appends(1, full()[3:]), appends(2, full()), cuts())
		holdCall(t, d, m, starts(p))
		holdInside(t, d, m)
	}
}

// P9.3: copies

func TestCopyIsTheSame(t *testing.T) {
	for n := range uint64(150) {
		r := newRand(6000 + n)
		d, m := New(), &model{}
		for range r.IntN(60) {
			holdCall(t, d, m, drawCall(r, 4, 6))
		}
		c := d.Copy()
		if c == d {
			t.Fatal("Copy() is the disk itself")
		}
		holdInside(t, c, m)
		holdInside(t, c.Copy(), m)
		holdInside(t, d, m)
	}
}

// TestCopiesGoTheirOwnWay has a copy of a disk in several states, and makes
// calls on both of them, in turns: neither tells what the other was told.
func TestCopiesGoTheirOwnWay(t *testing.T) {
	for n := range uint64(200) {
		r := newRand(7000 + n)
		d, m := New(), &model{}
		for range r.IntN(40) {
			holdCall(t, d, m, drawCall(r, 4, 6))
		}
		c, k := d.Copy(), m.copy()
		for range 30 {
			holdCall(t, c, k, drawCall(r, 4, 6))
			hold(t, d, m)
			holdCall(t, d, m, drawCall(r, 4, 6))
			hold(t, c, k)
		}
		holdInside(t, d, m)
		holdInside(t, c, k)
	}
}

// TestCopiesShareNoRoom appends to both behind bytes that they had in common,
// with room to spare.
func TestCopiesShareNoRoom(t *testing.T) {
	for size := range 40 {
		d, m := ran(t, appends(1, strings.Repeat("a", size)), syncs(1), appends(1, "b"), trims(1, size))
		c, k := d.Copy(), m.copy()
		for _, s := range []string{"x", "yz", "0123456789"} {
			holdCall(t, d, m, appends(1, s))
			holdCall(t, c, k, appends(1, strings.ToUpper(s)+"."))
			hold(t, d, m)
		}
		for _, x := range []call{syncs(1), trims(1, size+2), cuts()} {
			holdCall(t, d, m, x)
			holdInside(t, c, k)
		}
		holdInside(t, d, m)
	}
}

func TestCopyOfADiskThatIsOff(t *testing.T) {
	d, m := ran(t, appends(1, "abc"), syncs(1), appends(1, "def"), fuses(2), syncs(1), appends(1, "ghi"))
	if d.On() {
		t.Fatal("on")
	}
	c, k := d.Copy(), m.copy()
	holdCall(t, d, m, starts(1))
	holdInside(t, c, k)
	holdCall(t, c, k, starts(2))
	holdInside(t, c, k)
	holdInside(t, d, m)
}

func TestCopyHasTheFuse(t *testing.T) {
	for fuse := -1; fuse <= 6; fuse++ {
		for burnt := range max(fuse, 1) {
			d, m := ran(t, appends(1, "abc"), fuses(fuse))
			for range burnt {
				holdCall(t, d, m, syncs(1))
			}
			c, k := d.Copy(), m.copy()
			holdCall(t, d, m, fuses(0))
			holdFuse(t, c, k)
			holdCall(t, c, k, appends(1, "x"))
			holdFuse(t, d, m)
			hold(t, c, k)
		}
	}
}

// P9.4: what is safe stays

// TestWhatWasSafeStays has losses of power one behind the other: each file that
// wasn't trimmed nor removed begins with what was ever safe of it.
func TestWhatWasSafeStays(t *testing.T) {
	for n := range uint64(300) {
		r := newRand(8000 + n)
		d := New()
		safe := map[int]string{}
		for range 120 {
			c := drawCall(r, 5, 8)
			if e := c.on(d); (c.name == "Trim" || c.name == "Remove") && e == api.OK {
				delete(safe, c.no)
			}
			holdSafe(t, d, c, safe)
		}
	}
}

// holdSafe holds what was ever safe, by its files' numbers, against a disk, and
// takes down what is safe now.
func holdSafe(t *testing.T, d *Disk, c call, safe map[int]string) {
	t.Helper()
	if !d.On() {
		for no, s := range safe {
			if d.Safe(no) < len(s) || !slices.Contains(d.List(), no) {
				t.Fatalf("%v: file %d has %d safe bytes, it had %d", c, no, d.Safe(no), len(s))
			}
		}
		return
	}
	for no, s := range safe {
		if all, found := d.Read(no); !found || !strings.HasPrefix(all, s) {
			t.Fatalf("%v: file %d is %q, %v: it doesn't begin with %q", c, no, all, found, s)
		}
	}
	for _, no := range d.List() {
		all, _ := d.Read(no)
		safe[no] = all[:d.Safe(no)]
	}
}

func TestWhatWasSafeStaysBehindSeveralLosses(t *testing.T) {
	d, _ := ran(t, appends(1, "abc"), syncs(1), appends(1, "def"), appends(2, "xyz"))
	for i, c := range []struct {
		picks []int
		one   string
		two   string
	}{
		{[]int{1, 2}, "abcd", "xy"},
		{nil, "abcd", "xy"},
		{[]int{7}, "abcdt", "xyt"},
		{[]int{0}, "abcdt", "xyt"},
		{[]int{-9, 1}, "abcdt", "xytt"},
		{[]int{2, 2}, "abcdt", "xytt"},
	} {
		if i > 0 {
			d.Append(1, "t")
			d.Append(2, "t")
		}
		d.Cut()
		if e := d.Start(c.picks); e != api.OK {
			t.Fatal(e)
		}
		one, _ := d.Read(1)
		two, _ := d.Read(2)
		if one != c.one || two != c.two || d.Safe(1) != len(one) || d.Safe(2) != len(two) {
			t.Errorf("loss %d, by %v: %q, %q", i, c.picks, one, two)
		}
	}
}

// TestWhatWasSafeStaysWhereverThePowerGoes has the same calls with a fuse of
// each length, and each pick behind it.
func TestWhatWasSafeStaysWhereverThePowerGoes(t *testing.T) {
	calls := []call{appends(1, "abc"), syncs(1), appends(1, "def"), appends(2, "xyz"), syncs(2), syncs(1), appends(1, "g"), appends(3, "hij"), appends(2, "w"), syncs(3), appends(3, "k")}
	for fuse := 1; fuse <= len(calls); fuse++ {
		for pick := range 8 {
			d, m := ran(t, fuses(fuse))
			safe := map[int]string{}
			for _, c := range calls {
				holdCall(t, d, m, c)
				if c.name == "Sync" && d.On() {
					safe[c.no], _ = d.Read(c.no)
				}
			}
			for again := range 3 {
				holdCall(t, d, m, starts(pick))
				for no, s := range safe {
					if all, found := d.Read(no); !found || !strings.HasPrefix(all, s) {
						t.Errorf("a fuse of %d, a pick of %d, start %d: file %d is %q, not with %q", fuse, pick, again, no, all, s)
					}
				}
				holdCall(t, d, m, appends(1, "more"))
				holdCall(t, d, m, cuts())
			}
		}
	}
}
