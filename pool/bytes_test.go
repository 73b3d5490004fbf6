package pool

import (
	"strings"
	"testing"

	"platbook/api"
)

// P6.3

func TestCopy(t *testing.T) {
	for _, k := range kinds() {
		for _, m := range someUsed(k) {
			x := poolOf(m)
			other := x.Copy()
			if other == nil || other == x {
				t.Fatalf("%s: Copy() = %p of %p", k.text, other, x)
			}
			hold(t, other, m)
			hold(t, x, m)
			if other.Bytes() != x.Bytes() {
				t.Errorf("%s: a copy with other bytes", k.text)
			}
			for _, i := range some(k.size) {
				if other.May(m.at(i)) != x.May(m.at(i)) {
					t.Errorf("%s: a copy tells otherwise of %d", k.text, i)
				}
			}
		}
	}
}

// holdOwnWays gives and takes back by two pools that are both as a model tells:
// neither shows the other's.
func holdOwnWays(t *testing.T, x, other *Pool, m *model) {
	t.Helper()
	all, none := someUsed(m.kind)[1], modelOf(m.kind)
	for x.Left() > 0 {
		x.Next(m.size / 2)
	}
	hold(t, x, all)
	hold(t, other, m)
	for _, a := range other.Used() {
		other.Free(a)
	}
	hold(t, x, all)
	hold(t, other, none)
	for _, a := range x.Used() {
		x.Free(a)
		other.Take(a)
	}
	hold(t, x, none)
	hold(t, other, all)
}

func TestCopiesGoTheirOwnWay(t *testing.T) {
	for _, k := range smallKinds() {
		for _, m := range someUsed(k) {
			x := poolOf(m)
			other, third := x.Copy(), x.Copy()
			holdOwnWays(t, x, other, m)
			hold(t, third, m)
		}
	}
	m := someUsed(kinds()[len(kinds())-1])[4]
	x := poolOf(m)
	holdOwnWays(t, x, x.Copy(), m)
}

// holdBytes holds a pool's bytes, and answers the pool of these bytes.
func holdBytes(t *testing.T, x *Pool, m *model) *Pool {
	t.Helper()
	s := x.Bytes()
	if s != m.bytes() {
		t.Fatalf("%s: Bytes() = %q, want %q", m.text, s, m.bytes())
	}
	again, e := OfBytes(s)
	if again == nil || e != api.OK {
		t.Fatalf("%s: OfBytes(%q) = %v, %d", m.text, s, again, e)
	}
	if again.Bytes() != s {
		t.Fatalf("%s: %q behind OfBytes, want %q", m.text, again.Bytes(), s)
	}
	return again
}

func TestBytes(t *testing.T) {
	tests := []struct {
		of   string
		used []string
		want string
	}{
		{"10.0.0.0/30", nil, "10.0.0.0/30\x00\x00\x00\x00\x04\x00"},
		{"10.0.0.0/30", []string{"10.0.0.1"}, "10.0.0.0/30\x00\x00\x00\x00\x04\x02"},
		{"10.0.0.0/30", []string{"10.0.0.1", "10.0.0.2"}, "10.0.0.0/30\x00\x00\x00\x00\x04\x06"},
		{"10.0.0.0/28", []string{"10.0.0.8", "10.0.0.14"}, "10.0.0.0/28\x00\x00\x00\x00\x10\x00\x41"},
		{"fd00::/126", nil, "fd00::/126\x00\x00\x00\x00\x04\x00"},
		{"fd00::/126", []string{"fd00::1", "fd00::2", "fd00::3"}, "fd00::/126\x00\x00\x00\x00\x04\x0e"},
		{"FD00:0:0::/125", []string{"fd00::7"}, "fd00::/125\x00\x00\x00\x00\x08\x80"},
		{"::/0", []string{"::1"}, "::/0\x00\x00\x01\x00\x00\x02" + strings.Repeat("\x00", 8191)},
		{"0.0.0.0/0", []string{"0.0.255.255"}, "0.0.0.0/0\x00\x00\x01\x00\x00" + strings.Repeat("\x00", 8191) + "\x80"},
	}
	for _, c := range tests {
		x := made(c.of)
		for _, text := range c.used {
			if e := x.Take(toldAddr(text)); e != api.OK {
				t.Fatalf("of %s: Take(%s) = %d", c.of, text, e)
			}
		}
		if s := x.Bytes(); s != c.want {
			t.Errorf("of %s: Bytes() = %q, want %q", c.of, s, c.want)
		}
		again, e := OfBytes(c.want)
		if e != api.OK {
			t.Fatalf("OfBytes(%q) = %v, %d", c.want, again, e)
		}
		if again.Prefix() != told(c.of) || again.Left() != x.Left() || len(again.Used()) != len(c.used) {
			t.Errorf("OfBytes(%q): %v, %d left, %v", c.want, again.Prefix(), again.Left(), again.Used())
		}
	}
}

func TestBytesAndBack(t *testing.T) {
	for _, k := range kinds() {
		for _, m := range someUsed(k) {
			x := poolOf(m)
			again := holdBytes(t, x, m)
			hold(t, again, m)
			hold(t, x, m)
			for _, i := range some(k.size) {
				if e := again.May(m.at(i)); e != m.mayWant(i) {
					t.Errorf("%s: May(%d) = %d behind OfBytes", k.text, i, e)
				}
			}
			for _, offset := range offsetsOf(k.size) {
				holdNext(t, again, m, offset)
			}
			hold(t, again, m)
		}
	}
}

func TestThePoolOfBytesGoesItsOwnWay(t *testing.T) {
	for _, k := range smallKinds() {
		for _, m := range someUsed(k) {
			x := poolOf(m)
			holdOwnWays(t, x, holdBytes(t, x, m), m)
		}
	}
}

// OfBytes, wrong inputs

func holdNoPool(t *testing.T, s string) {
	t.Helper()
	if x, e := OfBytes(s); x != nil || e != api.ErrForm {
		if len(s) > 60 {
			s = s[:60]
		}
		t.Errorf("OfBytes(%q ..) = %v, %d", s, x, e)
	}
}

func TestBytesWhereAKeptOneIsUsed(t *testing.T) {
	for _, k := range kinds() {
		for _, m := range someUsed(k) {
			for i := range k.size {
				if !m.keeps(i) {
					continue
				}
				m.used[i] = true
				holdNoPool(t, m.bytes())
				m.used[i] = false
			}
			if !m.keeps(k.size - 1) {
				m.used[k.size-1] = true
				hold(t, holdBytes(t, poolOf(m), m), m)
			}
		}
	}
}

func TestBytesWithOnesBehindTheSize(t *testing.T) {
	for behind := 4; behind < 8; behind++ {
		holdNoPool(t, "10.0.0.0/30\x00\x00\x00\x00\x04"+string([]byte{1 << behind}))
		holdNoPool(t, "fd00::/126\x00\x00\x00\x00\x04"+string([]byte{1<<behind | 2}))
	}
}

func TestBytesThatAreTooFewOrTooMany(t *testing.T) {
	for _, k := range kinds() {
		for _, m := range someUsed(k) {
			s := m.bytes()
			for n := range min(len(s), 60) {
				holdNoPool(t, s[:n])
			}
			holdNoPool(t, s[:len(s)-1])
			holdNoPool(t, s[strings.Index(s, "\x00"):])
			holdNoPool(t, s[strings.Index(s, "\x00")+1:])
			holdNoPool(t, s+"\x00")
			holdNoPool(t, s+"\x01")
			holdNoPool(t, "\x00"+s)
			holdNoPool(t, " "+s)
			holdNoPool(t, s+s)
		}
	}
}

func TestBytesOfAnotherSize(t *testing.T) {
	for _, k := range kinds() {
		for _, size := range []int{0, 1, 2, 3, 4, 5, k.size / 2, k.size - 8, k.size - 1, k.size + 1, k.size + 8, 2 * k.size, 65535, 65536, 65537} {
			if size < 0 || size == k.size {
				continue
			}
			holdNoPool(t, bytesOf(k.text, size))
		}
	}
}

// TestBytesOfAPrefixThatHasNoPool has maps that fit these prefixes.
func TestBytesOfAPrefixThatHasNoPool(t *testing.T) {
	for text, size := range map[string]int{
		"10.0.0.0/31": 2, "10.0.0.0/32": 1, "255.255.255.255/32": 1, "fd00::/127": 2, "fd00::/128": 1, "::/128": 1,
		"10.0.0.1/30": 4, "10.0.0.0/33": 0, "fd00::1/126": 4, "fd00::/129": 0,
	} {
		holdNoPool(t, bytesOf(text, size))
		holdNoPool(t, bytesOf(text, 4))
	}
}

// TestBytesWithAnotherText has texts that are read as a prefix, but aren't
// what Print tells of it, and some that are none.
func TestBytesWithAnotherText(t *testing.T) {
	for _, text := range []string{
		"FD00::/126", "fd00:0::/126", "fd00:0:0:0:0:0:0:0/126", "fd00::0/126", "0fd00::/126", "fd00::0.0.0.0/126", "fD00::/126",
		"::ffff:10.0.0.0/126", "0::/126", "00fd::/126",
		"10.0.0.0/030", "10.0.0.00/30", "010.0.0.0/30", "10.0.0.0/+30", "10.0.0.0/ 30", " 10.0.0.0/30", "10.0.0.0/30 ",
		"10.0.0.0", "10.0.0.0/", "/30", "10.0.0/30", "10.0.0.0//30", "10.0.0.0/30/30", "", "x", "/", "10.0.0.0/-2", "10.0.0.256/30",
	} {
		holdNoPool(t, bytesOf(text, 4))
	}
	for _, text := range []string{"0::/0", "::0/0", "::/00", "0:0:0:0:0:0:0:0/0", "0.0.0.0/00", "FD00::/64"} {
		holdNoPool(t, bytesOf(text, 65536))
	}
}

func TestBytesWithAnotherSeparator(t *testing.T) {
	for _, separator := range []string{"", " ", "0", "\x01", "/", "\n", "\x00\x00"} {
		holdNoPool(t, "10.0.0.0/30"+separator+"\x00\x00\x00\x04\x00")
	}
	// Without one, the first byte of the map's is taken for it.
	holdNoPool(t, "10.0.0.0/30\x00\x00\x00\x04\x02")
}

func FuzzOfBytes(f *testing.F) {
	for _, k := range smallKinds() {
		for _, m := range someUsed(k) {
			f.Add(m.bytes())
		}
	}
	f.Add("")
	f.Add("FD00::/126\x00\x00\x00\x00\x04\x00")
	f.Fuzz(func(t *testing.T, s string) {
		x, e := OfBytes(s)
		if e != api.OK {
			if x != nil || e != api.ErrForm {
				t.Errorf("OfBytes(%q) = %v, %d", s, x, e)
			}
			return
		}
		if x.Bytes() != s {
			t.Errorf("OfBytes(%q) has the bytes %q", s, x.Bytes())
		}
	})
}
