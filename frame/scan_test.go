package frame

import (
	"slices"
	"strings"
	"testing"

	"platbook/api"
)

// begun is the record of the frame that a text begins with, searched for by the
// chapter's words: the one among all of its pieces whose frame stands there.
func begun(s string) (string, bool) {
	for end := 8; end <= min(len(s), 8+MaxBody); end++ {
		if strings.HasPrefix(s, laid(s[8:end])) {
			return s[8:end], true
		}
	}
	return "", false
}

func scanned(s string) ([]string, int) {
	var records []string
	size := 0
	for {
		record, isThere := begun(s[size:])
		if !isThere {
			return records, size
		}
		records = append(records, record)
		size += len(laid(record))
	}
}

// holdScan holds what Scan, Whole and Unpack answer to these records, of which
// frames of so many bytes the text has at its beginning.
func holdScan(t *testing.T, s string, records []string, size int) {
	t.Helper()
	if got, n := Scan(s); !slices.Equal(got, records) || n != size {
		t.Fatalf("Scan(%q of %d) = %d records, %d bytes, want %d, %d", shown(s), len(s), len(got), n, len(records), size)
	}
	record, wantE := "", api.ErrForm
	if size == len(s) && len(records) == 1 {
		record, wantE = records[0], api.OK
	}
	if got, e := Whole(s); got != record || e != wantE {
		t.Fatalf("Whole(%q of %d) = %q of %d, %d, want %q, %d", shown(s), len(s), shown(got), len(got), e, shown(record), wantE)
	}
	wantE = api.OK
	if size != len(s) {
		records, wantE = nil, api.ErrForm
	}
	if got, e := Unpack(s); !slices.Equal(got, records) || e != wantE {
		t.Fatalf("Unpack(%q of %d) = %d records, %d, want %d, %d", shown(s), len(s), len(got), e, len(records), wantE)
	}
}

// holdSearched holds them to what a search finds: for texts that are short.
func holdSearched(t *testing.T, s string) {
	t.Helper()
	records, size := scanned(s)
	holdScan(t, s, records, size)
}

// P10.2

func TestScanOfNothing(t *testing.T) {
	records, size := Scan("")
	if len(records) != 0 || size != 0 {
		t.Error(records, size)
	}
	if record, e := Whole(""); record != "" || e != api.ErrForm {
		t.Error(record, e)
	}
}

func TestScanOfOne(t *testing.T) {
	for _, record := range someRecords(newRand()) {
		s := laid(record)
		holdScan(t, s, []string{record}, len(s))
	}
}

func TestScanOfSeveral(t *testing.T) {
	r := newRand()
	all := someRecords(r)
	holdScan(t, laidAll(all), all, len(laidAll(all)))
	for range 300 {
		var records []string
		for range r.IntN(6) {
			records = append(records, all[r.IntN(len(all))])
		}
		s := laidAll(records)
		holdScan(t, s, records, len(s))
	}
	var none []string
	for range 1000 {
		none = append(none, "")
	}
	holdScan(t, laidAll(none), none, 8000)
}

func TestWholeOfOneByteMore(t *testing.T) {
	for _, record := range []string{"", "x", "abc", strings.Repeat("y", 300), strings.Repeat("z", MaxBody-1), strings.Repeat("z", MaxBody)} {
		s := laid(record)
		for _, more := range []string{"\x00", "\xff", "x", "\x01\x00\x00\x00", strings.Repeat("\x00", 8)} {
			holdScan(t, s+more, []string{record}, len(s))
			if got, e := Whole(more + s); got != "" || e != api.ErrForm {
				t.Errorf("%q ahead of the frame of %q: %q, %d", more, shown(record), shown(got), e)
			}
		}
	}
}

func TestWholeOfTwo(t *testing.T) {
	for _, record := range []string{"", "x", "abc", laid("x")} {
		for _, other := range []string{"", "x", "other"} {
			if got, e := Whole(laid(record) + laid(other)); got != "" || e != api.ErrForm {
				t.Errorf("%q, %q: %q, %d", record, other, got, e)
			}
		}
	}
}

// A frame in a record is the record's bytes, no frame that is scanned.
func TestScanOfFramesInRecords(t *testing.T) {
	in := laid("in")
	out := laid(in + in)
	holdScan(t, out+out, []string{in + in, in + in}, 2*len(out))
	holdScan(t, laid(out), []string{out}, len(out)+8)
	holdScan(t, "x"+out, nil, 0)
	holdScan(t, out[:8], nil, 0)
	holdScan(t, out[8:], []string{"in", "in"}, 2*len(in))
}

func TestScanOfOtherBytesBehind(t *testing.T) {
	r := newRand()
	for _, other := range []string{
		"\x00", "\xff\xff\xff\xff", "\x00\x00\x00\x00", strings.Repeat("\x00", 8), strings.Repeat("\x00", 100), "text that is none",
		four(0) + four(0) + laid("x"), drawn(r, 7), drawn(r, 8), drawn(r, 9), drawn(r, 1000), drawn(r, 100000),
	} {
		for _, records := range [][]string{nil, {""}, {"a"}, {"a", "", "bc"}, {strings.Repeat("d", 300)}} {
			s := laidAll(records)
			holdScan(t, s+other, records, len(s))
		}
	}
}

// What stands behind one that is none isn't told, frames neither.
func TestScanStops(t *testing.T) {
	broken := laid("abc")[:10] + "d"
	holdScan(t, laid("a")+broken+laid("b"), []string{"a"}, 9)
	holdScan(t, broken+laid("b"), nil, 0)
	holdScan(t, laid("a")+"\x00"+laid("b"), []string{"a"}, 9)
	holdScan(t, laid("a")+laid("")[1:]+laid("b"), []string{"a"}, 9)
}

func TestScanOfAnyByteTurned(t *testing.T) {
	for _, record := range []string{"", "x", "abc", "\x00\x00\x00\x00\x00", strings.Repeat("y", 40)} {
		s := laid(record)
		for i := range s {
			for turn := 1; turn < 256; turn++ {
				list := []byte(s)
				list[i] ^= byte(turn)
				turned := string(list)
				holdScan(t, turned, nil, 0)
				holdScan(t, laid("a")+turned, []string{"a"}, 9)
				holdScan(t, turned+laid("a"), nil, 0)
			}
		}
	}
}

func TestScanOfALongOneWithAByteTurned(t *testing.T) {
	r := newRand()
	for _, size := range []int{256, 513, 65535, MaxBody} {
		s := laid(drawn(r, size))
		places := []int{0, 1, 2, 3, 4, 5, 6, 7, 8, 9, size / 2, size + 6, size + 7}
		for range 30 {
			places = append(places, r.IntN(len(s)))
		}
		for _, i := range places {
			list := []byte(s)
			list[i] ^= byte(1 + r.IntN(255))
			holdScan(t, string(list)+laid("a"), nil, 0)
		}
	}
}

// A length that says more than a record may have, with the sum that it asks for.
func TestScanOfLengthsBeyondMost(t *testing.T) {
	r := newRand()
	for _, size := range []int{MaxBody + 1, MaxBody + 2, MaxBody + 256, 2 * MaxBody, 2*MaxBody + 3, 1 << 24} {
		s := told(uint32(size), drawn(r, size))
		holdScan(t, s, nil, 0)
		holdScan(t, laid("a")+s+laid("b"), []string{"a"}, 9)
	}
	for _, count := range []uint32{MaxBody + 1, MaxBody + 3, 1 << 24, 3 + 1<<24, 3 + 1<<16, 1 << 31, 3 + 1<<31, 0xFFFFFFFC, 0xFFFFFFF8, 0xFFFFFFFF} {
		holdScan(t, told(count, ""), nil, 0)
		holdScan(t, told(count, "abc"), nil, 0)
		holdScan(t, laid("a")+told(count, "abc")+laid("b"), []string{"a"}, 9)
		holdScan(t, told(count, "abc")+strings.Repeat("x", MaxBody+100), nil, 0)
	}
}

// A length that says more, or less, than there is.
func TestScanOfLengthsThatArent(t *testing.T) {
	for _, count := range []uint32{0, 1, 2, 4, 5, 7, 8, 11, 255, 256, 768, 65536} {
		holdScan(t, told(count, "abc"), nil, 0)
		holdScan(t, laid("a")+told(count, "abc"), []string{"a"}, 9)
	}
	for _, size := range []int{255, 256, 65535} {
		record := strings.Repeat("x", size)
		holdScan(t, told(uint32(size+1), record), nil, 0)
		holdScan(t, told(uint32(size-1), record), nil, 0)
	}
}

// Frames that are laid another way than the chapter's.
func TestScanOfOtherLayouts(t *testing.T) {
	const record = "abc"
	length := four(3)
	for what, s := range map[string]string{
		"the length highest first":      "\x00\x00\x00\x03" + summed("\x00\x00\x00\x03"+record) + record,
		"the sum of the record alone":   length + summed(record) + record,
		"the sum of the length alone":   length + summed(length) + record,
		"the sum of record and length":  length + summed(record+length) + record,
		"the sum ahead":                 summed(length+record) + length + record,
		"the sum behind":                length + record + summed(length+record),
		"the length of all":             told(11, record),
		"the length in two bytes":       "\x03\x00" + summed("\x03\x00"+record) + record,
		"no sum":                        length + record,
		"a sum of zeros":                length + four(0) + record,
		"a sum that is the length":      length + length + record,
		"the frame's bytes as a text":   "03000000",
		"a frame with a byte ahead":     "\x00" + laid(record),
		"a frame without its first one": laid(record)[1:],
	} {
		if records, size := Scan(s); len(records) != 0 || size != 0 {
			t.Errorf("%s: %q, %d", what, records, size)
		}
		if got, e := Whole(s); got != "" || e != api.ErrForm {
			t.Errorf("%s: %q, %d", what, got, e)
		}
	}
}

// Texts that are drawn out of pieces of frames, each held to what a search finds.
func TestScanOfPieces(t *testing.T) {
	r := newRand()
	records := []string{"", "x", "abc", laid("x"), "\x00\x00\x00\x00", strings.Repeat("y", 20)}
	for range 20000 {
		s := ""
		for range 1 + r.IntN(4) {
			piece := laid(records[r.IntN(len(records))])
			switch r.IntN(6) {
			case 0:
				piece = piece[:r.IntN(len(piece)+1)]
			case 1:
				list := []byte(piece)
				list[r.IntN(len(list))] ^= byte(1 << r.IntN(8))
				piece = string(list)
			case 2:
				piece += drawn(r, r.IntN(3))
			}
			s += piece
		}
		holdSearched(t, s)
	}
}

func TestScanOfDrawnBytes(t *testing.T) {
	r := newRand()
	for size := range 120 {
		holdSearched(t, drawn(r, size))
		holdSearched(t, strings.Repeat("\x00", size))
		holdSearched(t, strings.Repeat("\xff", size))
		holdSearched(t, laid("ab")+drawn(r, size))
	}
}

// Each answer is a list of its own.
func TestScanAnswersNewLists(t *testing.T) {
	s := laid("a") + laid("b")
	first, _ := Scan(s)
	second, _ := Unpack(s)
	first[0], second[1] = "other", "other"
	_ = append(first, "more")
	holdScan(t, s, []string{"a", "b"}, 18)
	if first[1] != "b" || second[0] != "a" {
		t.Error(first, second)
	}
}
