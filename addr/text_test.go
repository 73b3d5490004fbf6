package addr

import (
	"cmp"
	"net/netip"
	"strings"
	"testing"

	"platbook/api"
)

// P2.4

func TestPrint(t *testing.T) {
	tests := []struct {
		a    api.Addr
		want string
	}{
		{firstShort, "0.0.0.0"},
		{V4(0x0a600005), "10.96.0.5"},
		{V4(0x64000a01), "100.0.10.1"},
		{lastShort, "255.255.255.255"},
		{firstLong, "::"},
		{V6(0, 1), "::1"},
		{V6(1<<48, 0), "1::"},
		{V6(0x20010db8<<32, 1), "2001:db8::1"},
		{V6(0x0001000200030004, 0x0005000600070008), "1:2:3:4:5:6:7:8"},
		{V6(0x00010020030004ab, 0xabcdef0100f00a0b), "1:20:300:4ab:abcd:ef01:f0:a0b"},
		{lastLong, "ffff:ffff:ffff:ffff:ffff:ffff:ffff:ffff"},
		// One group alone is not left out, wherever it stands.
		{V6(0x0000000200030004, 0x0005000600070008), "0:2:3:4:5:6:7:8"},
		{V6(0x0001000000030004, 0x0005000600070008), "1:0:3:4:5:6:7:8"},
		{V6(0x0001000200030004, 0x0005000600070000), "1:2:3:4:5:6:7:0"},
		{V6(0x0000000200000004, 0x0000000600000008), "0:2:0:4:0:6:0:8"},
		// Two are, wherever they stand.
		{V6(0x0000000000030004, 0x0005000600070008), "::3:4:5:6:7:8"},
		{V6(0x0001000200030000, 0x0000000600070008), "1:2:3::6:7:8"},
		{V6(0x0001000200030004, 0x0005000600000000), "1:2:3:4:5:6::"},
		// Of rows that are as long the first one.
		{V6(0x20010db800000000, 0x0001000000000001), "2001:db8::1:0:0:1"},
		{V6(0x0000000000030000, 0x0000000600000000), "::3:0:0:6:0:0"},
		{V6(0x0001000000000000, 0x0005000000000000), "1::5:0:0:0"},
		// A longer one ahead of those before it.
		{V6(0x0000000000010000, 0x0000000000010001), "0:0:1::1:1"},
		{V6(0x0001000000000004, 0x0000000000000008), "1:0:0:4::8"},
		{V6(0x0000000000030004, 0x0005000000000000), "0:0:3:4:5::"},
		// No text of dots stands within one that is printed.
		{V6(0, 0xffff01020304), "::ffff:102:304"},
		{V6(0, 0x01020304), "::102:304"},
		{V6(0, 0xffff00000000), "::ffff:0:0"},
	}
	for _, c := range tests {
		if got := Print(c.a); got != c.want {
			t.Errorf("Print(%v) = %q, want %q", c.a, got, c.want)
		}
		if got, e := Parse(c.want); got != c.a || e != api.OK {
			t.Errorf("Parse(%q) = %v, %d", c.want, got, e)
		}
	}
}

func TestPrintOfWhatMayNotBe(t *testing.T) {
	for _, a := range wrongAddrs() {
		if got := Print(a); got != "" {
			t.Errorf("Print(%v) = %q", a, got)
		}
	}
}

// libraryText is a's text as the library tells it: but for the addresses that
// it prints with dots.
func libraryText(a api.Addr) (string, bool) {
	ip, ok := netip.AddrFromSlice([]byte(wantBytes(a)))
	return ip.String(), ok && !ip.Is4In6()
}

func TestPrintAgainstTheLibrary(t *testing.T) {
	for _, a := range rightAddrs() {
		if want, ok := libraryText(a); ok && Print(a) != want {
			t.Errorf("Print(%v) = %q, want %q", a, Print(a), want)
		}
	}
}

func TestParse(t *testing.T) {
	tests := []struct {
		text string
		want api.Addr
	}{
		{"1.2.3.4", V4(0x01020304)},
		{"0.10.200.255", V4(0x000ac8ff)},
		{"2001:db8::1", V6(0x20010db8<<32, 1)},
		{"2001:DB8::AbCd", V6(0x20010db8<<32, 0xabcd)},
		{"ABCD:EF01:abcd:ef01:AbCd:eF01:2345:6789", V6(0xabcdef01abcdef01, 0xabcdef0123456789)},
		{"0000:0000:0000:0000:0000:0000:0000:0000", firstLong},
		{"0:0:0:0:0:0:0:0", firstLong},
		{"0001:0:0:0:0:0:0:0002", V6(1<<48, 2)},
		{"00:000::0", firstLong},
		// Two colons stand for any row of noughts, also a short one and one that would not be left out.
		{"1::3:4:5:6:7:8", V6(0x0001000000030004, 0x0005000600070008)},
		{"::2:3:4:5:6:7:8", V6(0x0000000200030004, 0x0005000600070008)},
		{"1:2:3:4:5:6:7::", V6(0x0001000200030004, 0x0005000600070000)},
		{"1:0:0:4::8", V6(0x0001000000000004, 8)},
		{"1::4:0:0:0:8", V6(0x0001000000000004, 8)},
		{"0::0", firstLong},
		{"::0:0:0:0:0:0:0", firstLong},
		{"::ffff:1.2.3.4", V6(0, 0xffff01020304)},
		{"::FFFF:0.0.0.0", V6(0, 0xffff00000000)},
		{"::1.2.3.4", V6(0, 0x01020304)},
		{"::255.255.255.255", V6(0, 0xffffffff)},
		{"1::1.2.3.4", V6(1<<48, 0x01020304)},
		{"1:2:3:4:5:6:1.2.3.4", V6(0x0001000200030004, 0x0005000601020304)},
		{"1:2:3:4:5::1.2.3.4", V6(0x0001000200030004, 0x0005000001020304)},
		{"::2:3:4:5:6:1.2.3.4", V6(0x0000000200030004, 0x0005000601020304)},
		{"64:ff9b::192.0.2.33", V6(0x0064ff9b<<32, 0xc0000221)},
	}
	for _, c := range tests {
		if got, e := Parse(c.text); got != c.want || e != api.OK {
			t.Errorf("Parse(%q) = %v, %d", c.text, got, e)
		}
	}
}

// textsThatSayNothing are of a wrong form.
func textsThatSayNothing() []string {
	return []string{
		"", " ", "0", "1", "16909060", "a", "abcd", "localhost",
		".", "..", "...", "....", "1.", ".1", "1.2", "1.2.3", "1.2.3.", ".1.2.3", "1..3.4", "1.2.3.4.", ".1.2.3.4", "1.2.3.4.5", "1.2.3.4.5.6",
		"1.2.3.256", "256.2.3.4", "1.2.300.4", "1.2.3.1000", "1.2.3.4294967297", "1.2.3.18446744073709551617", "1.2.3.340282366920938463463374607431768211457",
		"01.2.3.4", "1.2.3.04", "1.2.00.4", "1.2.3.000", "001.2.3.4",
		"1.2.3.a", "a.b.c.d", "0x1.2.3.4", "1.2.3.-4", "1.2.3.+4", "-1.2.3.4", "1.2.3.1e1", "1.2.3.4_0",
		" 1.2.3.4", "1.2.3.4 ", "1. 2.3.4", "1.2.3.4\n", "1.2.3.4\x00", "1,2,3,4", "1.2.3.4/8", "1.2.3.٤", "1.2.3.４",
		":", ":::", "::::", ":1", "1:", "1:2", ":1:2", "1:2:", "1:::2", ":::1", "1:::", "::1:", ":1::", "::1::", "1::2::3", "1::2::", "::::1", "1::::2", "::1:::",
		"1:2:3:4:5:6:7", ":2:3:4:5:6:7:8", "1:2:3:4:5:6:7:", "1:2:3:4:5:6:7:8:", ":1:2:3:4:5:6:7:8", "1:2:3:4:5:6:7:8:9", "1:2:3::4:5:6:7:8:9",
		"1:2:3:4:5:6:7:8::", "::1:2:3:4:5:6:7:8", "1:2:3:4::5:6:7:8", "1:2:3:4:5:6:7::8",
		"12345::", "::12345", "00001::", "::00000", "1:2:3:4:5:6:7:00008", "::10000",
		"g::", "::g", "::G", "::-1", "::+1", "::0x1", "::1_0", "::1e+1", ":: 1", ":: ", " ::", "::1 ", "::\n", "::\x00", "::٣", "::１", "::\xff",
		"[::1]", "::1%eth0", "::1%", "::1/64", "fe80::1%1", "1.2.3.4:80", "1.2.3.4%1",
		// The text with dots is only in the last two groups' place, and only as it is printed.
		"1.2.3.4::", "1.2.3.4::5", "::1.2.3.4:5", "::1.2.3.4::", "1::1.2.3.4:5", "::1.2.3.4:1.2.3.4", "1.2.3.4:1.2.3.4", ":1.2.3.4", "1.2.3.4:", ":::1.2.3.4",
		"1:2:3:4:5:6:7:1.2.3.4", "1:2:3:4:5:1.2.3.4", "1:2:3:4:5:6::1.2.3.4", "::1:2:3:4:5:6:1.2.3.4", "1:2:3:4:5:6:1.2.3.4::", "1:2:3:4:1.2.3.4:7:8", "1:2:3:4:5:6:7:8:1.2.3.4",
		"::1.2.3", "::1.2.3.", "::1.2.3.4.5", "::1.2.3.256", "::1.2.3.04", "::01.2.3.4", "::1.2.3.a", "::.2.3.4", "::ffff.1.2.3", "::1.2.3.4 ",
	}
}

func TestParseForm(t *testing.T) {
	texts := append(textsThatSayNothing(),
		strings.Repeat("1", 100000),
		strings.Repeat("1.", 100000),
		strings.Repeat(":", 100000),
		strings.Repeat("1:", 100000),
		strings.Repeat("1:", 100000)+"1",
		"::"+strings.Repeat("1:", 100000)+"1",
		strings.Repeat("1:", 100000)+":1",
		"::"+strings.Repeat("0", 100000),
		"1.2.3."+strings.Repeat("0", 100000),
		"::1.2.3."+strings.Repeat("9", 100000))
	for _, text := range texts {
		if got, e := Parse(text); got != (api.Addr{}) || e != api.ErrForm {
			t.Errorf("Parse(%.60q) = %v, %d", text, got, e)
		}
	}
}

// holdAgainstTheLibrary reads a text, which has no zone, in both ways.
func holdAgainstTheLibrary(t *testing.T, text string) {
	ip, err := netip.ParseAddr(text)
	got, e := Parse(text)
	if err != nil {
		if got != (api.Addr{}) || e != api.ErrForm {
			t.Fatalf("Parse(%q) = %v, %d, the library refuses it", text, got, e)
		}
		return
	}
	if e != api.OK || wantBytes(got) != string(ip.AsSlice()) {
		t.Fatalf("Parse(%q) = %v, %d, the library reads %v", text, got, e, ip)
	}
}

// forEachText hands on all texts of so many pieces, or fewer.
func forEachText(pieces []string, most int, told string, each func(string)) {
	each(told)
	if most == 0 {
		return
	}
	for _, piece := range pieces {
		forEachText(pieces, most-1, told+piece, each)
	}
}

func TestParseAgainstTheLibrary(t *testing.T) {
	hold := func(text string) { holdAgainstTheLibrary(t, text) }
	for _, text := range textsThatSayNothing() {
		if !strings.Contains(text, "%") {
			hold(text)
		}
	}
	forEachText([]string{"1", "0", ":", "."}, 8, "", hold)
	forEachText([]string{"a", ":", "::", "1.2.3.4"}, 7, "", hold)
	forEachText([]string{"F:", "2:", "::", "1.2.3.4", "9"}, 5, "1:2:3:4", hold)
	forEachText([]string{"0.", "25", "6.", "01", "5", "."}, 6, "", hold)
}

// FuzzParse leaves out texts with a percent sign: behind one the library reads
// a zone, which no address here has.
func FuzzParse(f *testing.F) {
	for _, text := range textsThatSayNothing() {
		f.Add(text)
	}
	for _, a := range sparseAddrs() {
		f.Add(Print(a))
	}
	f.Fuzz(func(t *testing.T, text string) {
		if !strings.Contains(text, "%") {
			holdAgainstTheLibrary(t, text)
		}
	})
}

// P2.5

func TestPrintedIsReadAsItWas(t *testing.T) {
	for _, a := range rightAddrs() {
		if back, e := Parse(Print(a)); back != a || e != api.OK {
			t.Errorf("%v is printed %q and read %v, %d", a, Print(a), back, e)
		}
	}
}

func TestReadIsPrintedInOneWay(t *testing.T) {
	ways := map[string][]string{
		"::":                {"0::", "::0", "0::0", "0:0:0:0:0:0:0:0", "0000::0000", "::0.0.0.0", "0:0:0:0:0:0:0.0.0.0"},
		"::1":               {"0::1", "0:0:0:0:0:0:0:1", "::0001", "::0.0.0.1", "0:0::0:1"},
		"2001:db8::1:0:0:1": {"2001:DB8:0:0:1::1", "2001:0db8:0:0:1:0:0:1", "2001:db8::1:0:0.0.0.1", "2001:Db8::0001:0:0:1"},
		"::ffff:102:304":    {"::ffff:1.2.3.4", "::FFFF:0102:0304", "0:0:0:0:0:ffff:1.2.3.4", "0::ffff:102:304"},
		"1:0:3:4:5:6:7:8":   {"1::3:4:5:6:7:8", "1:0000:3:4:5:6:7:8", "1::3:4:5:6:0.7.0.8"},
		"1.2.3.4":           {"1.2.3.4"},
	}
	for want, texts := range ways {
		for _, text := range texts {
			a, e := Parse(text)
			if got := Print(a); got != want || e != api.OK {
				t.Errorf("%q is printed %q, %d, want %q", text, got, e, want)
			}
		}
	}
}

func TestOrderIsThatOfBytes(t *testing.T) {
	for _, list := range [][]api.Addr{shortAddrs(), longAddrs(), sparseAddrs()} {
		for _, a := range list {
			for _, b := range list {
				if got, want := Cmp(a, b), cmp.Compare(Bytes(a), Bytes(b)); got != want {
					t.Fatalf("Cmp(%v, %v) = %d, their bytes' %d", a, b, got, want)
				}
			}
		}
	}
}

func TestExamples(t *testing.T) {
	if got := Print(V6(0x20010db8<<32, 1)); got != "2001:db8::1" {
		t.Error(got)
	}
	if got, e := Parse("::ffff:1.2.3.4"); got != V6(0, 0xffff01020304) || e != api.OK {
		t.Error(got, e)
	}
}
