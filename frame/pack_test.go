package frame

import (
	"slices"
	"strings"
	"testing"

	"platbook/api"
)

// P10.3

func holdPack(t *testing.T, records []string) {
	t.Helper()
	want := laidAll(records)
	s, e := Pack(records)
	if s != want || e != api.OK {
		t.Fatalf("Pack(%d records) = %q of %d, %d, want %q of %d", len(records), shown(s), len(s), e, shown(want), len(want))
	}
	if again, e := Unpack(s); !slices.Equal(again, records) || e != api.OK {
		t.Fatalf("Unpack(%q of %d) = %d records, %d, want %d", shown(s), len(s), len(again), e, len(records))
	}
}

func TestPackOfNone(t *testing.T) {
	holdPack(t, nil)
	holdPack(t, []string{})
	if s, e := Pack(nil); s != "" || e != api.OK {
		t.Errorf("%q, %d", s, e)
	}
	if records, e := Unpack(""); len(records) != 0 || e != api.OK {
		t.Errorf("%q, %d", records, e)
	}
}

func TestPackOfOne(t *testing.T) {
	for _, record := range someRecords(newRand()) {
		holdPack(t, []string{record})
	}
}

func TestPackOfSeveral(t *testing.T) {
	r := newRand()
	all := someRecords(r)
	holdPack(t, all)
	holdPack(t, []string{"", "", ""})
	holdPack(t, []string{"abc", "", "d"})
	holdPack(t, []string{"b", "a", "b", "a"})
	for range 300 {
		var records []string
		for range r.IntN(8) {
			records = append(records, all[r.IntN(len(all))])
		}
		holdPack(t, records)
	}
}

func TestPackWithOneTooLong(t *testing.T) {
	r := newRand()
	for _, long := range tooLong(r)[:4] {
		for _, records := range [][]string{{long}, {long, "a"}, {"a", long}, {"", "a", long, "b"}, {long, long}, {strings.Repeat("x", MaxBody), long}} {
			if s, e := Pack(records); s != "" || e != api.ErrLong {
				t.Errorf("Pack(%d records, one of %d bytes) = %q of %d, %d", len(records), len(long), shown(s), len(s), e)
			}
		}
	}
}

func TestPackLeavesTheList(t *testing.T) {
	whole := []string{"a", "b", "c", "d"}
	for _, records := range [][]string{whole[:2], whole[:0], whole[1:3]} {
		if _, e := Pack(records); e != api.OK {
			t.Error(e)
		}
	}
	if !slices.Equal(whole, []string{"a", "b", "c", "d"}) {
		t.Error(whole)
	}
}

func TestUnpackOfOtherBytes(t *testing.T) {
	r := newRand()
	long := strings.Repeat("x", MaxBody+1)
	for _, s := range []string{
		"a", "\x00", "abcdefgh", "text that is none", strings.Repeat("\x00", 8), strings.Repeat("\x00", 16), drawn(r, 8), drawn(r, 1000), drawn(r, 70000),
		laid("a") + "x", "x" + laid("a"), laid("a") + "\x00" + laid("b"), told(MaxBody+1, long), laid("a") + told(MaxBody+1, long), told(2, "a"), laid("a") + told(5, "abcd"),
	} {
		if records, e := Unpack(s); len(records) != 0 || e != api.ErrForm {
			t.Errorf("Unpack(%q of %d) = %d records, %d", shown(s), len(s), len(records), e)
		}
	}
}

func TestUnpackOfAnyByteTurned(t *testing.T) {
	s := laidAll([]string{"abc", "", "defg"})
	for i := range s {
		for turn := 1; turn < 256; turn++ {
			list := []byte(s)
			list[i] ^= byte(turn)
			if records, e := Unpack(string(list)); len(records) != 0 || e != api.ErrForm {
				t.Fatalf("byte %d turned by %02x: %q, %d", i, turn, records, e)
			}
		}
	}
}

// P10.4

// A beginning of what was packed has the records whose frames end in it, and is
// no Pack, but where a frame ends.
func TestEachBeginning(t *testing.T) {
	r := newRand()
	for _, records := range [][]string{
		{""}, {"x"}, {"abc", "", "d"}, {"", "", ""}, {laid("x"), laid("y") + "z", ""},
		{drawn(r, 255), drawn(r, 256), drawn(r, 257), "", drawn(r, 513)},
	} {
		s := laidAll(records)
		ends := []int{0}
		for _, record := range records {
			ends = append(ends, ends[len(ends)-1]+8+len(record))
		}
		count := 0
		for size := range len(s) + 1 {
			if count < len(records) && size == ends[count+1] {
				count++
			}
			holdScan(t, s[:size], records[:count], ends[count])
		}
	}
}

func TestBeginningsOfLongOnes(t *testing.T) {
	r := newRand()
	for _, size := range []int{65535, MaxBody} {
		s := laid(drawn(r, size))
		for _, end := range []int{1, 3, 4, 7, 8, 9, 263, 264, size - 1, size, size + 1, size + 6, size + 7} {
			holdScan(t, s[:end], nil, 0)
			holdScan(t, laid("a")+laid("b")+s[:end], []string{"a", "b"}, 18)
		}
	}
}

func TestPackedIsUnpacked(t *testing.T) {
	r := newRand()
	for range 2000 {
		var records []string
		for range r.IntN(6) {
			records = append(records, drawn(r, r.IntN(40)))
		}
		s, e := Pack(records)
		if e != api.OK {
			t.Fatal(e)
		}
		again, e := Unpack(s)
		if !slices.Equal(again, records) || e != api.OK {
			t.Fatalf("%q: %q, %d", records, again, e)
		}
		scanned, size := Scan(s + drawn(r, r.IntN(8)))
		if !slices.Equal(scanned, records) || size != len(s) {
			t.Fatalf("%q: %q, %d", records, scanned, size)
		}
	}
}

func TestPackOfPacksIsOneBehindTheOther(t *testing.T) {
	first, _ := Pack([]string{"a", ""})
	second, _ := Pack([]string{"b"})
	both, e := Pack([]string{"a", "", "b"})
	if both != first+second || e != api.OK {
		t.Errorf("%x, %x, %x, %d", first, second, both, e)
	}
	one, e := Of("b")
	if one != second || e != api.OK {
		t.Errorf("%x, %x, %d", one, second, e)
	}
}
