package pool

import (
	"math"
	"math/rand/v2"
	"testing"

	"platbook/addr"
	"platbook/api"
)

// P6.2

func TestExample(t *testing.T) {
	x := made("10.0.0.0/30")
	for _, want := range []string{"10.0.0.2", "10.0.0.1"} {
		if a, e := x.Next(2); addr.Print(a) != want || e != api.OK {
			t.Errorf("Next(2) = %v, %d, want %s", a, e, want)
		}
	}
	if a, e := x.Next(2); a != (api.Addr{}) || e != api.ErrFull {
		t.Errorf("Next(2) = %v, %d", a, e)
	}
}

func TestServiceAddresses(t *testing.T) {
	x := made("10.96.0.0/24")
	if a, e := x.Next(5); a != toldAddr("10.96.0.5") || e != api.OK {
		t.Error(a, e)
	}
	if e := x.Take(toldAddr("10.96.0.5")); e != api.ErrUsed {
		t.Error(e)
	}
	if e := x.Take(toldAddr("10.96.0.0")); e != api.ErrRange {
		t.Error(e)
	}
	if e := x.Free(toldAddr("10.96.0.5")); e != api.OK {
		t.Error(e)
	}
	if e := x.Take(toldAddr("10.96.0.5")); e != api.OK {
		t.Error(e)
	}
}

func TestMay(t *testing.T) {
	tests := []struct {
		of, a string
		want  api.Errno
	}{
		{"10.0.0.0/30", "10.0.0.0", api.ErrRange},
		{"10.0.0.0/30", "10.0.0.1", api.OK},
		{"10.0.0.0/30", "10.0.0.2", api.OK},
		{"10.0.0.0/30", "10.0.0.3", api.ErrRange},
		{"10.0.0.0/30", "10.0.0.4", api.ErrRange},
		{"10.0.0.0/30", "9.255.255.255", api.ErrRange},
		{"10.0.0.0/30", "::10.0.0.1", api.ErrRange},
		{"10.0.0.0/30", "::ffff:10.0.0.1", api.ErrRange},
		{"172.16.0.0/16", "172.16.255.254", api.OK},
		{"172.16.0.0/16", "172.16.255.255", api.ErrRange},
		{"172.16.0.0/16", "172.17.0.0", api.ErrRange},
		{"172.16.0.0/15", "172.16.255.255", api.OK},
		{"172.16.0.0/15", "172.17.0.0", api.ErrRange},
		{"172.16.0.0/15", "172.17.0.1", api.ErrRange},
		{"172.16.0.0/15", "172.17.255.254", api.ErrRange},
		{"172.16.0.0/15", "172.17.255.255", api.ErrRange},
		{"0.0.0.0/0", "0.0.0.0", api.ErrRange},
		{"0.0.0.0/0", "0.0.255.255", api.OK},
		{"0.0.0.0/0", "255.255.255.255", api.ErrRange},
		{"255.255.255.252/30", "255.255.255.254", api.OK},
		{"255.255.255.252/30", "255.255.255.255", api.ErrRange},
		{"fd00::/126", "fd00::", api.ErrRange},
		{"fd00::/126", "fd00::1", api.OK},
		{"fd00::/126", "fd00::3", api.OK},
		{"fd00::/126", "fd00::4", api.ErrRange},
		{"fd00::/112", "fd00::ffff", api.OK},
		{"fd00::/112", "fd00::1:0", api.ErrRange},
		{"fd00::/64", "fd00::ffff", api.OK},
		{"fd00::/64", "fd00::1:0", api.ErrRange},
		{"fd00::/64", "fd00::ffff:ffff:ffff:ffff", api.ErrRange},
		{"fd00::/63", "fd00:0:0:1::5", api.ErrRange},
		{"::/0", "::", api.ErrRange},
		{"::/0", "::1", api.OK},
		{"::/0", "0.0.0.1", api.ErrRange},
		{"::/0", "0:0:0:1::1", api.ErrRange},
		{"::/0", "8000::1", api.ErrRange},
		{"::/0", "ffff:ffff:ffff:ffff:ffff:ffff:ffff:ffff", api.ErrRange},
		{"ffff:ffff:ffff:ffff:ffff:ffff:ffff:fffc/126", "ffff:ffff:ffff:ffff:ffff:ffff:ffff:ffff", api.OK},
	}
	for _, c := range tests {
		x := made(c.of)
		if e := x.May(toldAddr(c.a)); e != c.want {
			t.Errorf("of %s: May(%s) = %d, want %d", c.of, c.a, e, c.want)
		}
		if e := x.Take(toldAddr(c.a)); e != c.want {
			t.Errorf("of %s: Take(%s) = %d, want %d", c.of, c.a, e, c.want)
		}
	}
}

// mayWant is what May is to tell of a number that is looked after.
func (m *model) mayWant(i int) api.Errno {
	if m.keeps(i) {
		return api.ErrRange
	}
	return api.OK
}

func holdTake(t *testing.T, x *Pool, m *model, i int) {
	t.Helper()
	want := m.mayWant(i)
	if want == api.OK && m.used[i] {
		want = api.ErrUsed
	}
	if e := x.Take(m.at(i)); e != want {
		t.Fatalf("%s: Take(%d) = %d, want %d", m.text, i, e, want)
	}
	if want == api.OK {
		m.used[i] = true
	}
}

func holdFree(t *testing.T, x *Pool, m *model, i int) {
	t.Helper()
	want := m.mayWant(i)
	if want == api.OK && !m.used[i] {
		want = api.ErrNone
	}
	if e := x.Free(m.at(i)); e != want {
		t.Fatalf("%s: Free(%d) = %d, want %d", m.text, i, e, want)
	}
	if want == api.OK {
		m.used[i] = false
	}
}

func holdNext(t *testing.T, x *Pool, m *model, offset int) {
	t.Helper()
	a, e := x.Next(offset)
	i, found := m.next(offset)
	if !found {
		if a != (api.Addr{}) || e != api.ErrFull {
			t.Fatalf("%s: Next(%d) = %v, %d of a full one", m.text, offset, a, e)
		}
		return
	}
	if a != m.at(i) || e != api.OK {
		t.Fatalf("%s: Next(%d) = %v, %d, want %v", m.text, offset, a, e, m.at(i))
	}
	m.used[i] = true
}

// TestMayHangsOnNoUse asks of all kinds, whatever is used.
func TestMayHangsOnNoUse(t *testing.T) {
	for _, k := range kinds() {
		for _, m := range someUsed(k) {
			x := poolOf(m)
			for _, i := range some(k.size) {
				if e := x.May(m.at(i)); e != m.mayWant(i) {
					t.Errorf("%s: May(%d) = %d", k.text, i, e)
				}
			}
			for _, a := range strangersOf(k) {
				if e := x.May(a); e != api.ErrRange {
					t.Errorf("%s: May(%v) = %d", k.text, a, e)
				}
			}
			hold(t, x, m)
		}
	}
}

func TestTakeAndFree(t *testing.T) {
	for _, k := range kinds() {
		for _, m := range someUsed(k) {
			x := poolOf(m)
			for _, i := range some(k.size) {
				holdTake(t, x, m, i)
				holdTake(t, x, m, i)
			}
			hold(t, x, m)
			for _, i := range some(k.size) {
				holdFree(t, x, m, i)
				holdFree(t, x, m, i)
			}
			hold(t, x, m)
		}
	}
}

func TestTakeAndFreeEachOne(t *testing.T) {
	for _, k := range smallKinds() {
		for i := range k.size {
			x, m := made(k.text), modelOf(k)
			holdFree(t, x, m, i)
			hold(t, x, m)
			holdTake(t, x, m, i)
			hold(t, x, m)
			holdTake(t, x, m, i)
			hold(t, x, m)
			holdFree(t, x, m, i)
			hold(t, x, m)
		}
	}
}

func TestTakeAndFreeOfWhatItDoesNotLookAfter(t *testing.T) {
	for _, k := range kinds() {
		for _, m := range someUsed(k)[:3] {
			x := poolOf(m)
			for _, a := range strangersOf(k) {
				if e := x.Take(a); e != api.ErrRange {
					t.Errorf("%s: Take(%v) = %d", k.text, a, e)
				}
				if e := x.Free(a); e != api.ErrRange {
					t.Errorf("%s: Free(%v) = %d", k.text, a, e)
				}
			}
			hold(t, x, m)
		}
	}
}

// offsetsOf are within the size, beyond it, and below 0.
func offsetsOf(size int) []int {
	list := append(some(size), math.MinInt, math.MinInt+1, -65537, -65536, -size-1, -size, -2, -1, math.MaxInt-1, math.MaxInt)
	for _, i := range some(size) {
		list = append(list, size+i, 5*size+i, size<<40+i)
	}
	return append(list, 65535, 65536, 65537, 1<<31, 1<<32+1)
}

func TestNext(t *testing.T) {
	for _, k := range kinds() {
		for _, m := range someUsed(k) {
			x := poolOf(m)
			for _, offset := range offsetsOf(k.size) {
				holdNext(t, x, m, offset)
			}
			hold(t, x, m)
		}
	}
}

// TestNextOfEachOffset asks a pool of which none is used, and one of which one
// alone is left.
func TestNextOfEachOffset(t *testing.T) {
	for _, k := range smallKinds() {
		for _, offset := range append(offsetsOf(k.size), k.size/3) {
			x, m := made(k.text), modelOf(k)
			holdNext(t, x, m, offset)
			hold(t, x, m)
		}
		full := someUsed(k)[1]
		for left := range k.size {
			if full.keeps(left) {
				continue
			}
			x := poolOf(full)
			for _, offset := range offsetsOf(k.size) {
				if e := x.Free(full.at(left)); e != api.OK {
					t.Fatalf("%s: Free(%d) = %d", k.text, left, e)
				}
				if a, e := x.Next(offset); a != full.at(left) || e != api.OK {
					t.Fatalf("%s: Next(%d) = %v, %d, want %v", k.text, offset, a, e, full.at(left))
				}
			}
			hold(t, x, full)
		}
	}
}

func TestNextOfAFullOne(t *testing.T) {
	for _, k := range kinds() {
		m := someUsed(k)[1]
		x := poolOf(m)
		for _, offset := range offsetsOf(k.size) {
			if a, e := x.Next(offset); a != (api.Addr{}) || e != api.ErrFull {
				t.Errorf("%s: Next(%d) = %v, %d", k.text, offset, a, e)
			}
		}
		hold(t, x, m)
	}
}

// P6.4

// TestNextGivesEachOnce takes by Next all there are, whatever the offset.
func TestNextGivesEachOnce(t *testing.T) {
	for _, k := range smallKinds() {
		for _, offset := range []int{0, k.size - 1, k.size / 2, -1} {
			holdEachNext(t, k, offset)
		}
	}
	// Where all that are looked after are the prefix's, and where there are more.
	holdEachNext(t, kind{"172.16.0.0/16", 65536, true, 65534}, 65535)
	holdEachNext(t, kind{"172.16.0.0/15", 65536, false, 65535}, 65000)
	holdEachNext(t, kind{"fd00::/64", 65536, false, 65535}, 64000)
}

func holdEachNext(t *testing.T, k kind, offset int) {
	t.Helper()
	x, m := made(k.text), modelOf(k)
	given := map[api.Addr]bool{}
	for n := range k.mayBeHeld {
		a, e := x.Next(offset)
		if e != api.OK || given[a] {
			t.Fatalf("%s: Next(%d) = %v, %d behind %d others", k.text, offset, a, e, n)
		}
		given[a] = true
		if n%1009 == 0 && x.Left()+len(x.Used()) != k.mayBeHeld {
			t.Fatalf("%s: %d left with %d used", k.text, x.Left(), len(x.Used()))
		}
	}
	if a, e := x.Next(offset); a != (api.Addr{}) || e != api.ErrFull {
		t.Fatalf("%s: Next(%d) = %v, %d of a full one", k.text, offset, a, e)
	}
	for i := range k.size {
		m.used[i] = given[m.at(i)]
		if m.used[i] == m.keeps(i) {
			t.Fatalf("%s: number %d given: %v", k.text, i, m.used[i])
		}
	}
	hold(t, x, m)
}

// TestCallsOneBehindTheOther makes many calls of all kinds, each one held
// against the model; Left and those used come to the same in all states.
func TestCallsOneBehindTheOther(t *testing.T) {
	r := rand.New(rand.NewPCG(6, 4))
	for _, k := range smallKinds() {
		x, m := made(k.text), modelOf(k)
		outside := strangersOf(k)
		for range 2000 {
			i := r.IntN(k.size)
			switch r.IntN(8) {
			case 0, 1:
				holdTake(t, x, m, i)
			case 2, 3:
				holdFree(t, x, m, i)
			case 4, 5:
				holdNext(t, x, m, r.IntN(3*k.size)-k.size)
			case 6:
				x = holdBytes(t, x, m)
			case 7:
				a := outside[r.IntN(len(outside))]
				if x.Take(a) != api.ErrRange || x.Free(a) != api.ErrRange {
					t.Fatalf("%s: %v was taken, or given back", k.text, a)
				}
				x = x.Copy()
			}
			hold(t, x, m)
			if x.Left()+len(x.Used()) != k.mayBeHeld {
				t.Fatalf("%s: %d left with %d used", k.text, x.Left(), len(x.Used()))
			}
		}
	}
}
