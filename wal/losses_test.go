package wal

import (
	"math/rand/v2"
	"slices"
	"strings"
	"testing"

	"platbook/api"
)

// P11.6: a beginning lasts

// known is what a log was ahead of the call that was under way.
type known struct {
	text    string
	records []string
	synced  int // of the records, the first ones
}

func knownOf(l *Log) known {
	return known{l.Text(), l.Records(), len(l.Records()) - l.Pending()}
}

// holds: may that be found behind a loss of power in such a call? (One without a
// name is none.)
func (k known) holds(l *Log, c call) bool {
	if c.name == "Renew" && l.Text() == c.s && len(l.Records()) == 0 {
		return true
	}
	all := k.records
	if c.name == "Append" {
		all = append(slices.Clone(all), c.s)
	}
	found := l.Records()
	return l.Text() == k.text && len(found) >= k.synced && len(found) <= len(all) && slices.Equal(found, all[:len(found)])
}

// copy is a pair of a copy of the disk, without a log.
func (p *pair) copy() *pair {
	return &pair{disk: p.disk.Copy(), m: &model{shelf: *p.m.shelf.copy()}}
}

// beginnings are all ways to leave a beginning of each of these tails.
func beginnings(tails []int) [][]int {
	list := [][]int{nil}
	for _, size := range tails {
		var next [][]int
		for _, picks := range list {
			for n := range size + 1 {
				next = append(next, append(slices.Clone(picks), n))
			}
		}
		list = next
	}
	return list
}

// holdLoss has the power back with each beginning left, and Open, again and
// again.
func holdLoss(t *testing.T, p *pair, k known, c call) {
	t.Helper()
	for _, picks := range beginnings(p.m.shelf.tails()) {
		q := p.copy()
		q.hold(t, starts(picks...))
		ahead := q.copy()
		if e := q.hold(t, opens()); e != api.OK || !k.holds(q.log, c) {
			t.Fatalf("%v left: %d, text %s, records %s; it was %s, %s, %d synced, then %v",
				picks, e, shown(q.log.Text()), listed(q.log.Records()), shown(k.text), listed(k.records), k.synced, c)
		}
		found := knownOf(q.log)
		q.hold(t, opens())
		holdSame(t, q.log, found)
		holdLossesOfOpen(t, ahead, found)
	}
}

// holdSame holds that a log is just what was found ahead.
func holdSame(t *testing.T, l *Log, found known) {
	t.Helper()
	if l.Text() != found.text || !slices.Equal(l.Records(), found.records) || l.Pending() != 0 || found.synced != len(found.records) {
		t.Fatalf("text %s, records %s, want %s, %s", shown(l.Text()), listed(l.Records()), shown(found.text), listed(found.records))
	}
}

// holdLossesOfOpen has the power go in Open, too, by each of its steps.
func holdLossesOfOpen(t *testing.T, p *pair, found known) {
	t.Helper()
	for fuse := 1; ; fuse++ {
		q := p.copy()
		q.hold(t, fuses(fuse))
		if q.hold(t, opens()) == api.OK {
			return
		}
		q.hold(t, starts())
		q.hold(t, opens())
		holdSame(t, q.log, found)
	}
}

// holdLosses has the power go by each step of these calls, and behind each call.
func holdLosses(t *testing.T, made, calls []call) {
	t.Helper()
	for fuse := 1; ; fuse++ {
		p := begun(t, append(slices.Clone(made), fuses(fuse))...)
		for _, c := range calls {
			k := knownOf(p.log)
			if p.hold(t, c) == api.ErrDown {
				holdLoss(t, p, k, c)
				break
			}
		}
		if p.disk.On() {
			break
		}
	}
	p := begun(t, made...)
	for i := range len(calls) + 1 {
		q := p.copy()
		q.hold(t, cuts())
		holdLoss(t, q, knownOf(p.log), call{})
		if i < len(calls) {
			p.hold(t, calls[i])
		}
	}
}

func TestLossesOfAppendAndSync(t *testing.T) {
	calls := []call{appends("a"), appends("bb"), syncs(), appends("c"), syncs(), syncs(), appends("d"), appends("e"), appends("ff"), syncs()}
	for _, made := range [][]call{{}, {renews("text")}, {appends("x"), syncs(), renews("text"), appends("y")}} {
		holdLosses(t, made, calls)
	}
}

func TestLossesOfAppendToFullSegments(t *testing.T) {
	made := []call{appends(sized(560)), syncs()}
	holdLosses(t, made, []call{appends(sized(40)), appends("b"), appends("c"), syncs(), appends("d")})
	made = []call{appends(sized(700)), appends(sized(590)), syncs()}
	holdLosses(t, made, []call{appends("0"), appends("1"), appends(sized(30)), syncs(), appends("2")})
}

// TestLossesOfALargeTail leaves each beginning of a whole segment.
func TestLossesOfALargeTail(t *testing.T) {
	holdLosses(t, []call{appends(sized(300)), appends(sized(299))}, []call{appends("a"), appends("b"), syncs()})
}

func TestLossesOfRenew(t *testing.T) {
	for _, made := range [][]call{
		{},
		{appends("a")},
		{appends("a"), syncs()},
		{appends("a"), syncs(), appends("b")},
		{renews("old"), appends("a")},
		{appends(sized(600)), appends(sized(600)), appends("c")},
		{appends(sized(600)), appends("b"), syncs()},
	} {
		for _, text := range []string{"", "old", "new"} {
			holdLosses(t, made, []call{renews(text), appends("x"), syncs(), renews("and more"), appends("y")})
		}
	}
}

// TestLossesOneBehindTheOther opens what was left, goes on, and loses the power
// again, by drawn fuses and with drawn beginnings.
func TestLossesOneBehindTheOther(t *testing.T) {
	losses, renewed := 0, 0
	for n := range uint64(150) {
		r := newRand(n)
		p := begun(t)
		k := knownOf(p.log)
		for range 60 {
			if r.IntN(6) == 0 {
				p.hold(t, fuses(1+r.IntN(8)))
			}
			c := drawnLogCall(r)
			k = knownOf(p.log)
			if p.hold(t, c); p.disk.On() {
				continue
			}
			p.hold(t, starts(drawnPicks(r, p)...))
			p.hold(t, opens())
			if !k.holds(p.log, c) {
				t.Fatalf("%v behind %v: %s, %s", c, k, shown(p.log.Text()), listed(p.log.Records()))
			}
			losses++
			if c.name == "Renew" && p.log.Text() == c.s {
				renewed++
			}
		}
	}
	if losses < 500 || renewed < 20 {
		t.Error(losses, renewed)
	}
}

func newRand(n uint64) *rand.Rand {
	return rand.New(rand.NewPCG(11, n))
}

// drawnText is one of up to so many bytes.
func drawnText(r *rand.Rand, most int) string {
	list := make([]byte, r.IntN(most+1))
	for i := range list {
		list[i] = byte(r.Uint32())
	}
	return string(list)
}

func drawnPicks(r *rand.Rand, p *pair) []int {
	var picks []int
	for _, size := range p.m.shelf.tails() {
		picks = append(picks, []int{0, size, r.IntN(size + 1)}[r.IntN(3)])
	}
	return picks
}

func drawnLogCall(r *rand.Rand) call {
	switch k := r.IntN(10); {
	case k < 4:
		return appends("r" + drawnText(r, 20))
	case k < 6:
		return appends("r" + drawnText(r, 700))
	case k < 9:
		return syncs()
	}
	return renews("text " + drawnText(r, 30))
}

// Any calls, one behind the other, also those that may not be, and files of
// others.

func TestAnyCalls(t *testing.T) {
	met := map[string]int{}
	for n := range uint64(250) {
		r := newRand(1000 + n)
		p := newPair()
		if r.IntN(4) > 0 {
			p.hold(t, formats())
			p.hold(t, opens())
		}
		for range 80 {
			c := drawnCall(r, p)
			e := p.hold(t, c)
			met[c.name+" "+[]string{"done", "failed"}[min(1, int(e))]]++
		}
	}
	for _, name := range []string{"Append", "Sync", "Renew", "Open", "Format", "Lay", "Unlink", "Cut", "Start"} {
		if met[name+" done"] == 0 || met[name+" failed"] == 0 {
			t.Error(name, met)
		}
	}
}

func drawnCall(r *rand.Rand, p *pair) call {
	switch k := r.IntN(32); {
	case k < 16:
		return drawnLogCall(r)
	case k < 17:
		return appends(strings.Repeat("x", r.IntN(3)*32769))
	case k < 20:
		return opens()
	case k < 21 && r.IntN(3) == 0:
		return formats()
	case k < 23:
		return lays(drawnNumber(r, p), drawnFile(r))
	case k < 24:
		return flushes(drawnNumber(r, p))
	case k < 25 && r.IntN(2) == 0:
		return unlinks(drawnNumber(r, p))
	case k < 26:
		return fuses(r.IntN(10))
	case k < 27:
		return cuts()
	}
	return starts(drawnPicks(r, p)...)
}

// drawnNumber is often that of a file of the present generation, or of the next
// one.
func drawnNumber(r *rand.Rand, p *pair) int {
	if r.IntN(3) == 0 {
		return []int{1, 99, 100, 101, 999900, 999901, 1000000}[r.IntN(7)]
	}
	g := max(1, p.log.Generation())
	return min(1000000, 100*(g+r.IntN(2))+[]int{0, 1, 2, 3, 4, 98, 99}[r.IntN(7)])
}

func drawnFile(r *rand.Rand) string {
	s := ""
	for range r.IntN(4) {
		s += framed(drawnText(r, 10))
	}
	if r.IntN(3) == 0 {
		s += drawnText(r, 12)
	}
	return s
}
