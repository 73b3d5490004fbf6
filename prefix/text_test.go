package prefix

import (
	"net/netip"
	"strings"
	"testing"

	"platbook/addr"
	"platbook/api"
)

// P3.1

func TestPrint(t *testing.T) {
	tests := []struct {
		p    api.Prefix
		want string
	}{
		{api.Prefix{}, "0.0.0.0/0"},
		{api.Prefix{Addr: addr.V4(0x0a000000), Bits: 8}, "10.0.0.0/8"},
		{api.Prefix{Addr: addr.V4(0x0a600000), Bits: 24}, "10.96.0.0/24"},
		{api.Prefix{Addr: addr.V4(0x01020304), Bits: 32}, "1.2.3.4/32"},
		{api.Prefix{Addr: addr.V4(0xffffffff), Bits: 32}, "255.255.255.255/32"},
		{api.Prefix{Addr: addr.V6(0, 0)}, "::/0"},
		{api.Prefix{Addr: addr.V6(0, 0), Bits: 128}, "::/128"},
		{api.Prefix{Addr: addr.V6(0x20010db8<<32, 0), Bits: 32}, "2001:db8::/32"},
		{api.Prefix{Addr: addr.V6(0, 1), Bits: 128}, "::1/128"},
		{api.Prefix{Addr: addr.V6(0, 0xffff0a000000), Bits: 104}, "::ffff:a00:0/104"},
		{api.Prefix{Addr: addr.V6(top, top), Bits: 128}, "ffff:ffff:ffff:ffff:ffff:ffff:ffff:ffff/128"},
	}
	for _, c := range tests {
		if got := Print(c.p); got != c.want {
			t.Errorf("Print(%v) = %q, want %q", c.p, got, c.want)
		}
	}
}

func TestPrintOfWhatMayNotBe(t *testing.T) {
	for _, p := range wrongPrefixes() {
		if got := Print(p); got != "" {
			t.Errorf("Print(%v) = %q", p, got)
		}
	}
}

func TestParse(t *testing.T) {
	tests := []struct {
		text string
		want api.Prefix
	}{
		{"0.0.0.0/0", api.Prefix{}},
		{"0.0.0.0/32", api.Prefix{Bits: 32}},
		{"10.0.0.0/8", api.Prefix{Addr: addr.V4(0x0a000000), Bits: 8}},
		{"10.0.0.0/7", api.Prefix{Addr: addr.V4(0x0a000000), Bits: 7}},
		{"1.2.3.4/30", api.Prefix{Addr: addr.V4(0x01020304), Bits: 30}},
		{"1.2.3.4/32", api.Prefix{Addr: addr.V4(0x01020304), Bits: 32}},
		{"::/0", api.Prefix{Addr: addr.V6(0, 0)}},
		{"0:0:0:0:0:0:0:0/0", api.Prefix{Addr: addr.V6(0, 0)}},
		{"::/128", api.Prefix{Addr: addr.V6(0, 0), Bits: 128}},
		{"2001:DB8:0:0::/33", api.Prefix{Addr: addr.V6(0x20010db8<<32, 0), Bits: 33}},
		{"::1/128", api.Prefix{Addr: addr.V6(0, 1), Bits: 128}},
		{"::ffff:10.0.0.0/104", api.Prefix{Addr: addr.V6(0, 0xffff0a000000), Bits: 104}},
		{"::0.0.0.0/99", api.Prefix{Addr: addr.V6(0, 0), Bits: 99}},
	}
	for _, c := range tests {
		if got, e := Parse(c.text); got != c.want || e != api.OK {
			t.Errorf("Parse(%q) = %v, %d", c.text, got, e)
		}
	}
}

// textsThatSayNothing are of a wrong form.
func textsThatSayNothing() []string {
	return []string{
		// Not just one /.
		"", "1.2.3.4", "::1", "8", "10.0.0.0 8", "10.0.0.0\\8", "10.0.0.0/8/8", "10.0.0.0/8/", "10.0.0.0//8", "/10.0.0.0/8", "/", "//", "///", "::/0/0", "::/0/", "::/64/0",
		// No address ahead of it.
		"/8", "/0", "8/8", "0/0", "10/8", "10.0/8", "10.0.0/8", "10.0.0.0./8", "10.0.0.0.0/8", "010.0.0.0/8", "10.0.0.00/8", "256.0.0.0/8", "10.0.0.0 /8", " 10.0.0.0/8", "a/8",
		":/0", ":::/0", "1:2/0", "::1::/0", "::g/0", "::00000/0", "[::]/0", "::%1/0", "::%/0", "10.0.0.0%1/8", "1:2:3:4:5:6:7/128",
		// No number behind it, or noughts ahead of it.
		"1.2.3.4/", "10.0.0.0/", "::/", "10.0.0.0/08", "10.0.0.0/008", "0.0.0.0/00", "0.0.0.0/000", "1.2.3.4/032", "::/00", "::/064", "::/0128", "::/01",
		"10.0.0.0/-1", "0.0.0.0/-0", "0.0.0.0/+0", "10.0.0.0/+8", "10.0.0.0/ 8", "10.0.0.0/8 ", "10.0.0.0/8\n", "10.0.0.0/8\x00", "10.0.0.0/0x8", "10.0.0.0/8.0", "10.0.0.0/8.", "10.0.0.0/1e1", "10.0.0.0/1_6", "10.0.0.0/a", "10.0.0.0/٨", "10.0.0.0/８", "10.0.0.0/255.0.0.0", "::/::", "::/a", "::/-64", "::/6 4",
		// A number above the width.
		"10.0.0.0/33", "1.2.3.4/33", "0.0.0.0/33", "0.0.0.0/64", "0.0.0.0/128", "::/129", "::1/129", "::/130", "::/200", "::/1000", "0.0.0.0/255", "0.0.0.0/256", "0.0.0.0/264", "::/256", "::/384",
		// Numbers that come to one of the width, or to none, where they go round.
		"0.0.0.0/4294967296", "10.0.0.0/4294967304", "::/4294967296", "::/2147483648", "::/9223372036854775808",
		"0.0.0.0/18446744073709551616", "10.0.0.0/18446744073709551624", "::/18446744073709551616", "::/18446744073709551615", "10.0.0.0/99999999999999999999",
		"0.0.0.0/340282366920938463463374607431768211455", "0.0.0.0/340282366920938463463374607431768211456", "10.0.0.0/340282366920938463463374607431768211464", "::/340282366920938463463374607431768211456",
		// A bit behind it that isn't a nought.
		"10.0.0.1/8", "10.128.0.0/8", "10.0.0.0/6", "0.0.0.1/0", "128.0.0.0/0", "255.255.255.255/31", "255.255.255.255/0", "1.2.3.4/29", "0.0.0.1/31",
		"::1/127", "::1/0", "8000::/0", "2001:db8::/28", "2001:db8::1/32", "::8000:0:0:0/64", "0:0:0:1::/63", "::ffff:10.0.0.0/102", "::0.0.0.1/64",
	}
}

func TestParseForm(t *testing.T) {
	texts := append(textsThatSayNothing(),
		strings.Repeat("/", 100000),
		strings.Repeat("1", 100000),
		"0.0.0.0/"+strings.Repeat("0", 100000),
		"0.0.0.0/"+strings.Repeat("9", 100000),
		"::/1"+strings.Repeat("0", 100000),
		strings.Repeat("0", 100000)+"/0",
		strings.Repeat("::/0", 100000))
	for _, text := range texts {
		if got, e := Parse(text); got != (api.Prefix{}) || e != api.ErrForm {
			t.Errorf("Parse(%.60q) = %v, %d", text, got, e)
		}
	}
}

// holdAgainstTheLibrary reads a text in both ways. The library also reads those
// with bits behind.
func holdAgainstTheLibrary(t *testing.T, text string) {
	want, err := netip.ParsePrefix(text)
	got, e := Parse(text)
	if err != nil || want != want.Masked() {
		if got != (api.Prefix{}) || e != api.ErrForm {
			t.Fatalf("Parse(%q) = %v, %d, the library refuses it", text, got, e)
		}
		return
	}
	if e != api.OK || libraryPrefix(got) != want {
		t.Fatalf("Parse(%q) = %v, %d, the library reads %v", text, got, e, want)
	}
}

// forEachText hands on all texts of so many pieces, or fewer, behind others.
func forEachText(pieces []string, most int, before string, each func(string)) {
	each(before)
	if most == 0 {
		return
	}
	for _, piece := range pieces {
		forEachText(pieces, most-1, before+piece, each)
	}
}

func TestParseAgainstTheLibrary(t *testing.T) {
	hold := func(text string) { holdAgainstTheLibrary(t, text) }
	for _, text := range textsThatSayNothing() {
		hold(text)
	}
	for _, before := range []string{"0.0.0.0", "64.0.0.0", "10.1.2.0", "255.255.255.255", "::", "::1", "8000::", "2001:db8::", "0:0:0:1::", "::ffff:1.2.3.4"} {
		forEachText([]string{"/", "0", "1", "2", "3", "6", "8", "-"}, 5, before, hold)
	}
	forEachText([]string{"0", "::", ".0", "/", "1"}, 7, "", hold)
}

func FuzzParse(f *testing.F) {
	for _, text := range textsThatSayNothing() {
		f.Add(text)
	}
	for _, p := range edgePrefixes() {
		f.Add(Print(p))
	}
	f.Fuzz(holdAgainstTheLibrary)
}

// P3.4

func TestPrintedIsReadAsItWas(t *testing.T) {
	for _, p := range rightPrefixes() {
		if back, e := Parse(Print(p)); back != p || e != api.OK {
			t.Errorf("%v is printed %q and read %v, %d", p, Print(p), back, e)
		}
	}
}

func TestExamples(t *testing.T) {
	p, e := Parse("10.0.0.0/8")
	if e != api.OK {
		t.Fatal(e)
	}
	lower, upper, e := Halves(p)
	if Print(lower) != "10.0.0.0/9" || Print(upper) != "10.128.0.0/9" || e != api.OK {
		t.Error(lower, upper, e)
	}
	if got, e := Parse("10.0.0.1/8"); got != (api.Prefix{}) || e != api.ErrForm {
		t.Error(got, e)
	}
}
