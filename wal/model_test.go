package wal

import (
	"encoding/binary"
	"fmt"
	"hash/crc32"
	"maps"
	"slices"
	"strings"
	"testing"

	"platbook/api"
	"platbook/disk"
)

// framed is a record's frame, by the words of chapter 10.
func framed(records ...string) string {
	all := ""
	for _, s := range records {
		length := binary.LittleEndian.AppendUint32(nil, uint32(len(s)))
		n := crc32.Checksum(append(slices.Clone(length), s...), crc32.MakeTable(crc32.Castagnoli))
		all += string(binary.LittleEndian.AppendUint32(length, n)) + s
	}
	return all
}

// split is the records of the frames that a text begins with, and their bytes.
func split(s string) ([]string, int) {
	var records []string
	at := 0
	for len(s)-at >= 8 {
		n := binary.LittleEndian.Uint32([]byte(s[at:]))
		if n > 65536 || int(n) > len(s)-at-8 {
			break
		}
		record := s[at+8 : at+8+int(n)]
		if framed(record) != s[at:at+8+int(n)] {
			break
		}
		records = append(records, record)
		at += 8 + int(n)
	}
	return records, at
}

// entry is a file of the model: what is safe, and the tail behind it.
type entry struct {
	safe, tail string
}

func (f entry) all() string { return f.safe + f.tail }

// change is a step of a disk.
type change struct {
	what string
	no   int
	s    string
	size int
}

func laid(no int, s string) change    { return change{what: "Append", no: no, s: s} }
func synced(no int) change            { return change{what: "Sync", no: no} }
func removed(no int) change           { return change{what: "Remove", no: no} }
func trimmed(no int, size int) change { return change{what: "Trim", no: no, size: size} }

// shelf is a disk, by the words of chapter 9.
type shelf struct {
	files map[int]entry
	isOff bool
	fuse  int
	steps int
}

func (h *shelf) numbers() []int { return slices.Sorted(maps.Keys(h.files)) }

func (h *shelf) powerGoes() { h.isOff, h.fuse = true, 0 }

// start leaves so much of each tail; of one beyond the picks nothing.
func (h *shelf) start(picks []int) {
	h.isOff = false
	for _, no := range h.numbers() {
		f := h.files[no]
		if f.tail == "" {
			continue
		}
		stays := 0
		if len(picks) > 0 {
			stays, picks = picks[0], picks[1:]
		}
		h.files[no] = entry{safe: f.safe + f.tail[:stays]}
	}
}

// tails are the lengths of the tails that there are.
func (h *shelf) tails() []int {
	var list []int
	for _, no := range h.numbers() {
		if n := len(h.files[no].tail); n > 0 {
			list = append(list, n)
		}
	}
	return list
}

func (h *shelf) fault(c change) api.Errno {
	f, isThere := h.files[c.no]
	switch {
	case h.isOff:
		return api.ErrDown
	case !isThere && c.what != "Append":
		return api.ErrNone
	case c.what == "Append" && len(f.all())+len(c.s) > 1048576:
		return api.ErrLong
	case c.what == "Append" && !isThere && len(h.files) == 110:
		return api.ErrFull
	}
	return api.OK
}

func (h *shelf) do(c change) api.Errno {
	if e := h.fault(c); e != api.OK {
		return e
	}
	h.steps++
	f, isLast := h.files[c.no], h.fuse == 1
	switch {
	case c.what == "Append":
		h.files[c.no] = entry{f.safe, f.tail + c.s}
	case isLast:
	case c.what == "Sync":
		h.files[c.no] = entry{f.all(), ""}
	case c.what == "Remove":
		delete(h.files, c.no)
	case c.size <= len(f.safe):
		h.files[c.no] = entry{f.safe[:c.size], ""}
	default:
		h.files[c.no] = entry{f.safe, f.tail[:c.size-len(f.safe)]}
	}
	if isLast {
		h.powerGoes()
		return api.ErrDown
	}
	h.fuse = max(0, h.fuse-1)
	return api.OK
}

// all does the changes in their order, up to the first one that fails.
func (h *shelf) all(list []change) api.Errno {
	for _, c := range list {
		if e := h.do(c); e != api.OK {
			return e
		}
	}
	return api.OK
}

// state is a log, by the chapter's words.
type state struct {
	generation int
	text       string
	records    []string
	sizes      []int // of the segments
	pending    int
	isOver     bool
}

func (s *state) lastSegment() int { return 100*s.generation + len(s.sizes) }

// model is a disk, and the log that was opened on it, if there is one.
type model struct {
	shelf shelf
	log   *state
}

// call is one of a log's calls, or one of its disk's.
type call struct {
	name  string
	s     string
	n     int
	picks []int
}

func (c call) String() string {
	switch c.name {
	case "Append", "Renew":
		return fmt.Sprintf("%s(%s)", c.name, shown(c.s))
	case "Start":
		return fmt.Sprintf("Start(%v)", c.picks)
	case "Fuse", "Unlink", "Flush":
		return fmt.Sprintf("%s(%d)", c.name, c.n)
	case "Lay":
		return fmt.Sprintf("Lay(%d, %s)", c.n, shown(c.s))
	}
	return c.name + "()"
}

// shown is a text, or its beginning and its length, if it is a long one.
func shown(s string) string {
	if len(s) <= 60 {
		return fmt.Sprintf("%q", s)
	}
	return fmt.Sprintf("%q.. of %d", s[:30], len(s))
}

func appends(s string) call      { return call{name: "Append", s: s} }
func renews(s string) call       { return call{name: "Renew", s: s} }
func syncs() call                { return call{name: "Sync"} }
func formats() call              { return call{name: "Format"} }
func opens() call                { return call{name: "Open"} }
func cuts() call                 { return call{name: "Cut"} }
func fuses(n int) call           { return call{name: "Fuse", n: n} }
func starts(picks ...int) call   { return call{name: "Start", picks: picks} }
func lays(no int, s string) call { return call{name: "Lay", n: no, s: s} } // by others than the log
func flushes(no int) call        { return call{name: "Flush", n: no} }
func unlinks(no int) call        { return call{name: "Unlink", n: no} }

// do makes the call on the model.
func (m *model) do(c call) api.Errno {
	switch c.name {
	case "Format":
		return m.format()
	case "Open":
		return m.open()
	case "Append", "Sync", "Renew":
		return m.ask(c)
	case "Lay":
		return m.shelf.do(laid(c.n, c.s))
	case "Flush":
		return m.shelf.do(synced(c.n))
	case "Unlink":
		return m.shelf.do(removed(c.n))
	}
	return m.power(c)
}

func (m *model) power(c call) api.Errno {
	switch {
	case c.name == "Start" && !m.shelf.isOff:
		return api.ErrBusy
	case c.name == "Start":
		m.shelf.start(c.picks)
		return api.OK
	case m.shelf.isOff:
		return api.ErrDown
	case c.name == "Cut":
		m.shelf.powerGoes()
		return api.OK
	}
	m.shelf.fuse = max(0, c.n)
	return api.OK
}

func (m *model) format() api.Errno {
	var list []change
	for _, no := range m.shelf.numbers() {
		list = append(list, removed(no))
	}
	return m.shelf.all(append(list, laid(100, framed("")), synced(100)))
}

func (m *model) open() api.Errno {
	m.log = nil
	if m.shelf.isOff {
		return api.ErrDown
	}
	l := &state{}
	for no, f := range m.shelf.files {
		records, size := split(f.all())
		isBeginning := no >= 100 && no <= 999900 && no%100 == 0
		if isBeginning && len(records) == 1 && size == len(f.all()) && no/100 > l.generation {
			l.generation, l.text = no/100, records[0]
		}
	}
	if l.generation == 0 {
		return api.ErrLost
	}
	if e := m.shelf.all(m.found(l)); e != api.OK {
		return e
	}
	m.log = l
	return api.OK
}

// found reads a generation's segments into its state; it answers what is to be
// done to the disk.
func (m *model) found(l *state) []change {
	own := []int{100 * l.generation}
	var ends []change
	for k := 1; k <= 99; k++ {
		no := 100*l.generation + k
		f, isThere := m.shelf.files[no]
		if !isThere {
			break
		}
		own = append(own, no)
		records, size := split(f.all())
		l.records = append(l.records, records...)
		l.sizes = append(l.sizes, size)
		ends = []change{synced(no)}
		if size < len(f.all()) {
			ends = []change{trimmed(no, size), synced(no)}
			break
		}
	}
	var list []change
	for _, no := range m.shelf.numbers() {
		if !slices.Contains(own, no) {
			list = append(list, removed(no))
		}
	}
	return append(list, ends...)
}

// ask makes a call of the log; of none, of a nil one.
func (m *model) ask(c call) api.Errno {
	l := m.log
	switch {
	case l == nil:
		return api.ErrNil
	case len(c.s) > 65536, c.name == "Append" && c.s == "":
		return api.ErrLong
	case l.isOver:
		return api.ErrOver
	case c.name == "Renew" && l.generation == 9999:
		return api.ErrFull
	}
	next, list := *l, []change(nil)
	switch c.name {
	case "Renew":
		next, list = m.renew(c.s)
	case "Sync":
		next.pending = 0
		if len(l.sizes) > 0 {
			list = []change{synced(l.lastSegment())}
		}
	case "Append":
		if len(l.sizes) == 99 && l.sizes[98] >= 600 {
			return api.ErrFull
		}
		next, list = m.add(c.s)
	}
	for _, one := range list {
		if e := m.shelf.do(one); e != api.OK {
			l.isOver = true
			return e
		}
		if c.name == "Append" && one.what == "Sync" {
			l.pending = 0
		}
	}
	m.log = &next
	return api.OK
}

func (m *model) renew(text string) (state, []change) {
	l := m.log
	no := 100*l.generation + 100
	list := []change{laid(no, framed(text)), synced(no)}
	for _, old := range slices.Backward(m.shelf.numbers()) {
		if old >= no-100 && old < no {
			list = append(list, removed(old))
		}
	}
	return state{generation: l.generation + 1, text: text}, list
}

func (m *model) add(s string) (state, []change) {
	next := *m.log
	next.sizes = slices.Clone(next.sizes)
	next.records = append(slices.Clone(next.records), s)
	next.pending++
	var list []change
	if n := len(next.sizes); n == 0 {
		next.sizes = []int{0}
	} else if next.sizes[n-1] >= 600 {
		list = append(list, synced(next.lastSegment()))
		next.sizes = append(next.sizes, 0)
		next.pending = 1
	}
	next.sizes[len(next.sizes)-1] += 8 + len(s)
	return next, append(list, laid(next.lastSegment(), framed(s)))
}

// pair is a disk and the log that was opened on it, and what they are to be.
type pair struct {
	disk *disk.Disk
	log  *Log
	m    *model
}

func newPair() *pair {
	return &pair{disk: disk.New(), m: &model{shelf: shelf{files: map[int]entry{}}}}
}

// ran is a new pair behind these calls.
func ran(t *testing.T, calls ...call) *pair {
	t.Helper()
	p := newPair()
	for _, c := range calls {
		p.hold(t, c)
	}
	return p
}

// on makes the call on the disk, or on its log.
func (p *pair) on(c call) api.Errno {
	switch c.name {
	case "Format":
		return Format(p.disk)
	case "Open":
		l, e := Open(p.disk)
		p.log = l
		return e
	case "Append":
		return p.log.Append(c.s)
	case "Sync":
		return p.log.Sync()
	case "Renew":
		return p.log.Renew(c.s)
	case "Lay":
		return p.disk.Append(c.n, c.s)
	case "Flush":
		return p.disk.Sync(c.n)
	case "Unlink":
		return p.disk.Remove(c.n)
	case "Cut":
		return p.disk.Cut()
	case "Fuse":
		return p.disk.Fuse(c.n)
	}
	return p.disk.Start(c.picks)
}

// hold makes a call on both, and holds what it answers and what it leaves. The
// picks of a start are those of the tails that there are.
func (p *pair) hold(t *testing.T, c call) api.Errno {
	t.Helper()
	if c.name == "Start" && len(c.picks) < len(p.m.shelf.tails()) {
		c.picks = append(slices.Clone(c.picks), make([]int, len(p.m.shelf.tails())-len(c.picks))...)
	}
	want := p.m.do(c)
	if e := p.on(c); e != want {
		t.Fatalf("%v = %d, want %d", c, e, want)
	}
	if (p.log == nil) != (p.m.log == nil) {
		t.Fatalf("%v: the log is %v, want %v", c, p.log, p.m.log)
	}
	p.holdLog(t, c)
	p.holdDisk(t, c)
	return want
}

func (p *pair) holdLog(t *testing.T, c call) {
	t.Helper()
	want := p.m.log
	if want == nil {
		want = &state{}
	}
	l := p.log
	if l.Text() != want.text || l.Generation() != want.generation || l.Pending() != want.pending {
		t.Fatalf("%v: text %s, generation %d, pending %d, want %s, %d, %d", c,
			shown(l.Text()), l.Generation(), l.Pending(), shown(want.text), want.generation, want.pending)
	}
	if !slices.Equal(l.Records(), want.records) {
		t.Fatalf("%v: the records are %s, want %s", c, listed(l.Records()), listed(want.records))
	}
}

// listed is a list of records, in short.
func listed(records []string) string {
	var all []string
	for _, s := range records {
		all = append(all, shown(s))
	}
	return fmt.Sprintf("%d: %s", len(all), strings.Join(all[:min(len(all), 20)], " "))
}

func (p *pair) holdDisk(t *testing.T, c call) {
	t.Helper()
	d, h := p.disk, &p.m.shelf
	if d.On() == h.isOff || d.Steps() != h.steps || !slices.Equal(d.List(), h.numbers()) {
		t.Fatalf("%v: on %v, %d steps, files %v, want %v, %d, %v", c, d.On(), d.Steps(), d.List(), !h.isOff, h.steps, h.numbers())
	}
	for no, f := range h.files {
		if d.Safe(no) != len(f.safe) {
			t.Fatalf("%v: of file %d %d bytes are safe, want %d", c, no, d.Safe(no), len(f.safe))
		}
	}
	if !h.isOff {
		holdFiles(t, c, d, h)
		return
	}
	// What is in tails shows only when the power is back: with all of them, and
	// with as many bytes more as there are none.
	all, more := h.tails(), h.tails()
	for i := range more {
		more[i]++
	}
	other, whole := d.Copy(), h.copy()
	other.Start(all)
	whole.start(all)
	holdFiles(t, c, other, whole)
	other, whole = d.Copy(), h.copy()
	other.Start(more)
	whole.start(nil)
	holdFiles(t, c, other, whole)
}

func holdFiles(t *testing.T, c call, d *disk.Disk, h *shelf) {
	t.Helper()
	for no, f := range h.files {
		if s, found := d.Read(no); s != f.all() || !found {
			t.Fatalf("%v: file %d is %s, %v, want %s", c, no, shown(s), found, shown(f.all()))
		}
	}
}

func (h *shelf) copy() *shelf {
	other := *h
	other.files = maps.Clone(h.files)
	return &other
}

// steps is how many a call takes on such a pair, when nothing fails.
func steps(t *testing.T, made func() *pair, c call) int {
	t.Helper()
	p := made()
	ahead := p.disk.Steps()
	p.hold(t, c)
	return p.disk.Steps() - ahead
}

// holdEach makes a call on such a pair as it is, with a fuse of each length, and
// with the disk off; behind it the log's calls.
func holdEach(t *testing.T, made func() *pair, c call) {
	t.Helper()
	for fuse := range steps(t, made, c) + 2 {
		p := made()
		p.hold(t, fuses(fuse))
		p.hold(t, c)
		holdOn(t, p)
	}
	p := made()
	p.hold(t, cuts())
	p.hold(t, c)
	holdOn(t, p)
}

// holdOn has the log's calls, on and off, and behind a start.
func holdOn(t *testing.T, p *pair) {
	t.Helper()
	list := []call{appends("on"), syncs(), renews("from here"), appends("and on"), syncs()}
	for _, c := range list {
		p.hold(t, c)
	}
	p.hold(t, cuts())
	p.hold(t, starts())
	for _, c := range list {
		p.hold(t, c)
	}
	p.hold(t, opens())
}

// laidOut is a disk with these files, by rising numbers, of which all bytes are
// safe but those behind a bar.
func laidOut(t *testing.T, files map[int]string) *pair {
	t.Helper()
	p := newPair()
	for _, no := range slices.Sorted(maps.Keys(files)) {
		safe, tail, hasTail := strings.Cut(files[no], bar)
		p.hold(t, lays(no, safe))
		p.hold(t, flushes(no))
		if hasTail {
			p.hold(t, lays(no, tail))
		}
	}
	return p
}

const bar = "|unsafe from here on|"
