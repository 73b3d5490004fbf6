package disk

import (
	"fmt"
	"math/rand/v2"
	"slices"
	"sort"
	"strings"
	"testing"

	"platbook/api"
)

// entry is a file of the model: what is safe, and the tail behind it.
type entry struct {
	no         int
	safe, tail string
}

func (e entry) all() string {
	return e.safe + e.tail
}

// model is what a disk is to be, by the chapter's words: its files stand by
// rising numbers, and a fuse is the number of steps that are left of it.
type model struct {
	entries []entry
	isOff   bool
	hasFuse bool
	left    int
	steps   int
}

// call is one of a disk's calls that change it, with its arguments.
type call struct {
	name  string
	no    int
	s     string
	size  int
	picks []int
}

func (c call) String() string {
	switch c.name {
	case "Append":
		return fmt.Sprintf("Append(%d, %s)", c.no, shown(c.s))
	case "Sync", "Remove", "Fuse":
		return fmt.Sprintf("%s(%d)", c.name, c.no)
	case "Trim":
		return fmt.Sprintf("Trim(%d, %d)", c.no, c.size)
	case "Start":
		return fmt.Sprintf("Start(%v)", c.picks)
	}
	return c.name + "()"
}

// shown is a text, or its beginning and its length, if it is a long one.
func shown(s string) string {
	if len(s) <= 40 {
		return fmt.Sprintf("%q", s)
	}
	return fmt.Sprintf("%q.. of %d", s[:20], len(s))
}

func appends(no int, s string) call { return call{name: "Append", no: no, s: s} }
func syncs(no int) call             { return call{name: "Sync", no: no} }
func trims(no, size int) call       { return call{name: "Trim", no: no, size: size} }
func removes(no int) call           { return call{name: "Remove", no: no} }
func fuses(n int) call              { return call{name: "Fuse", no: n} }
func cuts() call                    { return call{name: "Cut"} }
func starts(picks ...int) call      { return call{name: "Start", picks: picks} }

// on makes the call on a disk.
func (c call) on(d *Disk) api.Errno {
	switch c.name {
	case "Append":
		return d.Append(c.no, c.s)
	case "Sync":
		return d.Sync(c.no)
	case "Trim":
		return d.Trim(c.no, c.size)
	case "Remove":
		return d.Remove(c.no)
	case "Fuse":
		return d.Fuse(c.no)
	case "Cut":
		return d.Cut()
	case "Start":
		return d.Start(c.picks)
	}
	panic("no such call: " + c.name)
}

// at is the place of a file, or -1.
func (m *model) at(no int) int {
	return slices.IndexFunc(m.entries, func(e entry) bool { return e.no == no })
}

// do makes the call on the model.
func (m *model) do(c call) api.Errno {
	switch c.name {
	case "Fuse":
		if m.isOff {
			return api.ErrDown
		}
		m.hasFuse, m.left = c.no >= 1, c.no
		return api.OK
	case "Cut":
		if m.isOff {
			return api.ErrDown
		}
		m.powerGoes()
		return api.OK
	case "Start":
		if !m.isOff {
			return api.ErrBusy
		}
		m.powerComes(c.picks)
		return api.OK
	}
	if e := m.fault(c); e != api.OK {
		return e
	}
	return m.step(c)
}

// fault is the first one of a call that would be a step.
func (m *model) fault(c call) api.Errno {
	if m.isOff {
		return api.ErrDown
	}
	if c.no <= 0 || c.no >= 1000001 {
		return api.ErrArg
	}
	at := m.at(c.no)
	if c.name == "Append" {
		has := 0
		if at >= 0 {
			has = len(m.entries[at].all())
		}
		if has+len(c.s) > 1048576 {
			return api.ErrLong
		}
		if at < 0 && len(m.entries)+1 > 110 {
			return api.ErrFull
		}
		return api.OK
	}
	if at < 0 {
		return api.ErrNone
	}
	if c.name == "Trim" && (c.size < 0 || c.size > len(m.entries[at].all())) {
		return api.ErrArg
	}
	return api.OK
}

func (m *model) step(c call) api.Errno {
	m.steps++
	isLast := m.hasFuse && m.left == 1
	if !isLast || c.name == "Append" {
		m.effect(c)
	}
	if isLast {
		m.powerGoes()
		return api.ErrDown
	}
	m.left--
	return api.OK
}

func (m *model) effect(c call) {
	at := m.at(c.no)
	if at < 0 {
		m.entries = append(m.entries, entry{no: c.no, tail: c.s})
		sort.Slice(m.entries, func(i, j int) bool { return m.entries[i].no < m.entries[j].no })
		return
	}
	e := &m.entries[at]
	switch c.name {
	case "Append":
		e.tail += c.s
	case "Sync":
		e.safe, e.tail = e.all(), ""
	case "Trim":
		if c.size <= len(e.safe) {
			e.safe, e.tail = e.safe[:c.size], ""
		} else {
			e.tail = e.tail[:c.size-len(e.safe)]
		}
	case "Remove":
		m.entries = slices.Delete(m.entries, at, at+1)
	}
}

func (m *model) powerGoes() {
	m.isOff, m.hasFuse = true, false
}

func (m *model) powerComes(picks []int) {
	m.isOff = false
	which := 0
	for i := range m.entries {
		e := &m.entries[i]
		if e.tail == "" {
			continue
		}
		stays := 0
		if len(picks) > 0 {
			if p := picks[which%len(picks)]; p > 0 {
				stays = p % (len(e.tail) + 1)
			}
		}
		e.safe, e.tail = e.safe+e.tail[:stays], ""
		which++
	}
}

// copy is another model of the same state.
func (m *model) copy() *model {
	other := *m
	other.entries = slices.Clone(m.entries)
	return &other
}

func (m *model) numbers() []int {
	var list []int
	for _, e := range m.entries {
		list = append(list, e.no)
	}
	return list
}

// hold holds what a disk tells against what it is to be.
func hold(t *testing.T, d *Disk, m *model) {
	t.Helper()
	if d.On() == m.isOff || d.Steps() != m.steps {
		t.Fatalf("On() = %v, Steps() = %d, want %v, %d", d.On(), d.Steps(), !m.isOff, m.steps)
	}
	if list := d.List(); !slices.Equal(list, m.numbers()) {
		t.Fatalf("List() = %v, want %v", list, m.numbers())
	}
	for _, e := range m.entries {
		holdFile(t, d, e, !m.isOff)
	}
	for _, no := range []int{-1, 0, 1, 2, 3, 110, 111, 999999, 1000000, 1000001} {
		if m.at(no) < 0 {
			holdNoFile(t, d, no)
		}
	}
}

func holdFile(t *testing.T, d *Disk, e entry, isOn bool) {
	t.Helper()
	if n := d.Safe(e.no); n != len(e.safe) {
		t.Fatalf("Safe(%d) = %d, want %d", e.no, n, len(e.safe))
	}
	want := ""
	if isOn {
		want = e.all()
	}
	if s, found := d.Read(e.no); s != want || found != isOn {
		t.Fatalf("Read(%d) = %s, %v, want %s, %v", e.no, shown(s), found, shown(want), isOn)
	}
}

func holdNoFile(t *testing.T, d *Disk, no int) {
	t.Helper()
	if s, found := d.Read(no); s != "" || found {
		t.Fatalf("Read(%d) of no file = %s, %v", no, shown(s), found)
	}
	if n := d.Safe(no); n != 0 {
		t.Fatalf("Safe(%d) of no file = %d", no, n)
	}
}

// holdInside holds what a disk doesn't tell by itself, too: on a copy, the fuse
// by steps till it has burnt, and by starts with and without all tails what is
// in these.
func holdInside(t *testing.T, d *Disk, m *model) {
	t.Helper()
	hold(t, d, m)
	if !m.isOff {
		holdFuse(t, d, m)
	}
	for _, keepsTails := range []bool{false, true} {
		c, n := d.Copy(), m.copy()
		if !n.isOff {
			holdCall(t, c, n, cuts())
		}
		var picks []int
		for _, e := range n.entries {
			if e.tail != "" && keepsTails {
				picks = append(picks, len(e.tail))
			}
		}
		holdCall(t, c, n, starts(picks...))
	}
}

// longest is how long a fuse is looked at.
const longest = 12

func holdFuse(t *testing.T, d *Disk, m *model) {
	t.Helper()
	c, n := d.Copy(), m.copy()
	no := 777777
	if len(n.entries) > 0 {
		no = n.entries[0].no
	}
	for i := range longest {
		if n.isOff {
			return
		}
		if e, want := c.Append(no, ""), n.do(appends(no, "")); e != want || c.On() == n.isOff {
			t.Fatalf("step %d on from there: %d, on: %v, want %d, on: %v", i, e, c.On(), want, !n.isOff)
		}
	}
}

// holdCall makes a call on a disk and on its model, and holds what it answers
// and what it leaves.
func holdCall(t *testing.T, d *Disk, m *model, c call) {
	t.Helper()
	want := m.do(c)
	if e := c.on(d); e != want {
		t.Fatalf("%v = %d, want %d", c, e, want)
	}
	hold(t, d, m)
}

// ran is a new disk, and a model, behind these calls.
func ran(t *testing.T, calls ...call) (*Disk, *model) {
	t.Helper()
	d, m := New(), &model{}
	for _, c := range calls {
		holdCall(t, d, m, c)
	}
	return d, m
}

func newRand(n uint64) *rand.Rand {
	return rand.New(rand.NewPCG(9, n))
}

// drawn is so many bytes of all kinds.
func drawn(r *rand.Rand, size int) string {
	list := make([]byte, size)
	for i := range list {
		list[i] = byte(r.Uint32())
	}
	return string(list)
}

// full is MaxBytes bytes.
func full() string {
	return strings.Repeat("0123456789abcdef", 1<<16)
}

// drawCall draws one that may fail, with numbers up to most and those that may
// not be, and texts of up to size bytes.
func drawCall(r *rand.Rand, most, size int) call {
	no := 1 + r.IntN(most)
	if r.IntN(12) == 0 {
		no = []int{-1, 0, 1000000, 1000001}[r.IntN(4)]
	}
	switch k := r.IntN(24); {
	case k < 9:
		return appends(no, drawn(r, r.IntN(size+1)))
	case k < 12:
		return syncs(no)
	case k < 15:
		return trims(no, r.IntN(3*size+3)-1)
	case k < 16:
		return removes(no)
	case k < 19:
		return fuses(r.IntN(9) - 1)
	case k < 20:
		return cuts()
	}
	return starts(drawPicks(r, size)...)
}

func drawPicks(r *rand.Rand, size int) []int {
	var picks []int
	for range r.IntN(4) {
		picks = append(picks, r.IntN(4*size+4)-size)
	}
	return picks
}
