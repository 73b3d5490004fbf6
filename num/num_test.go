package num

import (
	"math"
	"math/big"
	"strings"
	"testing"

	"platbook/api"
)

const top = math.MaxUint64

var allOnes = api.Num{Hi: top, Lo: top}

// edgeWords are words at which carries, borrows and bounds turn.
func edgeWords() []uint64 {
	return []uint64{0, 1, 2, 3, 7, 9, 10, 255, 1 << 32, 1<<63 - 1, 1 << 63, 1<<63 + 1, top - 1, top}
}

// sampleWords are the edges, with words of no pattern, the same ones each time.
func sampleWords() []uint64 {
	words := edgeWords()
	state := uint64(1)
	for range 10 {
		state = state*6364136223846793005 + 1442695040888963407
		words = append(words, state)
	}
	return words
}

func sampleNums() []api.Num {
	var nums []api.Num
	for _, hi := range sampleWords() {
		for _, lo := range sampleWords() {
			nums = append(nums, api.Num{Hi: hi, Lo: lo})
		}
	}
	return nums
}

func edgeNums() []api.Num {
	var nums []api.Num
	for _, hi := range edgeWords() {
		for _, lo := range edgeWords() {
			nums = append(nums, api.Num{Hi: hi, Lo: lo})
		}
	}
	return nums
}

// sampleShifts are all shifts that keep a bit, and those around and far beyond them.
func sampleShifts() []int {
	shifts := []int{math.MinInt, math.MinInt + 1, math.MinInt32, -1 << 20, 1 << 20, math.MaxInt32, math.MaxInt - 1, math.MaxInt}
	for k := -260; k <= 260; k++ {
		shifts = append(shifts, k)
	}
	return shifts
}

func toBig(a api.Num) *big.Int {
	n := new(big.Int).SetUint64(a.Hi)
	n.Lsh(n, 64)
	return n.Or(n, new(big.Int).SetUint64(a.Lo))
}

// modulus is 2^128.
func modulus() *big.Int {
	return new(big.Int).Lsh(big.NewInt(1), 128)
}

// fromBig is n modulo 2^128, and whether that is n.
func fromBig(n *big.Int) (api.Num, bool) {
	m := new(big.Int).Mod(n, modulus())
	lo := new(big.Int).And(m, new(big.Int).SetUint64(top))
	hi := new(big.Int).Rsh(m, 64)
	return api.Num{Hi: hi.Uint64(), Lo: lo.Uint64()}, m.Cmp(n) == 0
}

// wantShift is a times 2^k, rounded down, modulo 2^128.
func wantShift(a api.Num, k int) api.Num {
	switch {
	case k >= 128 || k <= -128:
		return api.Num{}
	case k >= 0:
		want, _ := fromBig(new(big.Int).Lsh(toBig(a), uint(k)))
		return want
	default:
		want, _ := fromBig(new(big.Int).Rsh(toBig(a), uint(-k)))
		return want
	}
}

// P1.1

func TestOf(t *testing.T) {
	for _, n := range sampleWords() {
		if got := Of(n); got != (api.Num{Lo: n}) {
			t.Errorf("Of(%d) = %v", n, got)
		}
	}
}

func TestCmp(t *testing.T) {
	for _, a := range edgeNums() {
		for _, b := range edgeNums() {
			if got, want := Cmp(a, b), toBig(a).Cmp(toBig(b)); got != want {
				t.Fatalf("Cmp(%v, %v) = %d, want %d", a, b, got, want)
			}
		}
	}
}

func TestAddAndSubAgainstBig(t *testing.T) {
	for _, a := range sampleNums() {
		for _, b := range edgeNums() {
			want, wantTrue := fromBig(new(big.Int).Add(toBig(a), toBig(b)))
			if got, isTrue := Add(a, b); got != want || isTrue != wantTrue {
				t.Fatalf("Add(%v, %v) = %v, %v, want %v, %v", a, b, got, isTrue, want, wantTrue)
			}
			want, wantTrue = fromBig(new(big.Int).Sub(toBig(a), toBig(b)))
			if got, isTrue := Sub(a, b); got != want || isTrue != wantTrue {
				t.Fatalf("Sub(%v, %v) = %v, %v, want %v, %v", a, b, got, isTrue, want, wantTrue)
			}
		}
	}
}

func TestAddBeyondTheGreatest(t *testing.T) {
	tests := []struct {
		a, b, want api.Num
		isTrue     bool
	}{
		{Of(2), Of(3), Of(5), true},
		{Of(top), Of(1), api.Num{Hi: 1}, true},
		{allOnes, api.Num{}, allOnes, true},
		{allOnes, Of(1), api.Num{}, false},
		{allOnes, allOnes, api.Num{Hi: top, Lo: top - 1}, false},
		{api.Num{Hi: 1 << 63}, api.Num{Hi: 1 << 63}, api.Num{}, false},
	}
	for _, c := range tests {
		if got, isTrue := Add(c.a, c.b); got != c.want || isTrue != c.isTrue {
			t.Errorf("Add(%v, %v) = %v, %v", c.a, c.b, got, isTrue)
		}
	}
}

func TestSubBelowNought(t *testing.T) {
	tests := []struct {
		a, b, want api.Num
		isTrue     bool
	}{
		{Of(5), Of(3), Of(2), true},
		{Of(5), Of(5), api.Num{}, true},
		{api.Num{Hi: 1}, Of(1), Of(top), true},
		{api.Num{}, Of(1), allOnes, false},
		{Of(3), Of(5), api.Num{Hi: top, Lo: top - 1}, false},
		{api.Num{}, allOnes, Of(1), false},
		{Of(7), api.Num{Hi: 1}, api.Num{Hi: top, Lo: 7}, false},
	}
	for _, c := range tests {
		if got, isTrue := Sub(c.a, c.b); got != c.want || isTrue != c.isTrue {
			t.Errorf("Sub(%v, %v) = %v, %v", c.a, c.b, got, isTrue)
		}
	}
}

func TestTimesAgainstBig(t *testing.T) {
	for _, a := range sampleNums() {
		for _, k := range sampleWords() {
			want, wantTrue := fromBig(new(big.Int).Mul(toBig(a), new(big.Int).SetUint64(k)))
			if got, isTrue := Times(a, k); got != want || isTrue != wantTrue {
				t.Fatalf("Times(%v, %d) = %v, %v, want %v, %v", a, k, got, isTrue, want, wantTrue)
			}
		}
	}
}

func TestTimesBeyondTheGreatest(t *testing.T) {
	tests := []struct {
		a      api.Num
		k      uint64
		want   api.Num
		isTrue bool
	}{
		{Of(6), 7, Of(42), true},
		{allOnes, 0, api.Num{}, true},
		{allOnes, 1, allOnes, true},
		{Of(1 << 63), 4, api.Num{Hi: 2}, true},
		{allOnes, 2, api.Num{Hi: top, Lo: top - 1}, false},
		{api.Num{Hi: 1 << 63}, 2, api.Num{}, false},
		// The upper word's product alone fits; what the lower word carries into it doesn't.
		{api.Num{Hi: 1<<63 - 1, Lo: top}, 2, api.Num{Hi: top, Lo: top - 1}, true},
		{api.Num{Hi: top / 3, Lo: top}, 3, api.Num{Hi: 1, Lo: top - 2}, false},
	}
	for _, c := range tests {
		if got, isTrue := Times(c.a, c.k); got != c.want || isTrue != c.isTrue {
			t.Errorf("Times(%v, %d) = %v, %v", c.a, c.k, got, isTrue)
		}
	}
}

func TestOverAgainstBig(t *testing.T) {
	for _, a := range sampleNums() {
		for _, k := range sampleWords() {
			if k == 0 {
				continue
			}
			quotient, rest := new(big.Int).QuoRem(toBig(a), new(big.Int).SetUint64(k), new(big.Int))
			want, _ := fromBig(quotient)
			if got, left := Over(a, k); got != want || left != rest.Uint64() {
				t.Fatalf("Over(%v, %d) = %v, %d, want %v, %v", a, k, got, left, want, rest)
			}
		}
	}
}

func TestOverByNought(t *testing.T) {
	for _, a := range sampleNums() {
		if got, left := Over(a, 0); got != (api.Num{}) || left != 0 {
			t.Fatalf("Over(%v, 0) = %v, %d", a, got, left)
		}
	}
}

// P1.2

func TestShiftsAgainstBig(t *testing.T) {
	for _, a := range sampleNums() {
		for _, k := range sampleShifts() {
			if got, want := Shl(a, k), wantShift(a, k); got != want {
				t.Fatalf("Shl(%v, %d) = %v, want %v", a, k, got, want)
			}
			// The least int has no opposite; all its bits are shifted out either way.
			if got, want := Shr(a, k), wantShift(a, -k); got != want {
				t.Fatalf("Shr(%v, %d) = %v, want %v", a, k, got, want)
			}
		}
	}
}

func TestShiftEdges(t *testing.T) {
	five, high := Of(5), api.Num{Hi: 5}
	tests := []struct {
		what      string
		got, want api.Num
	}{
		{"Shl 0", Shl(five, 0), five},
		{"Shl 63", Shl(five, 63), api.Num{Hi: 2, Lo: 1 << 63}},
		{"Shl 64", Shl(five, 64), high},
		{"Shl 65", Shl(five, 65), api.Num{Hi: 10}},
		{"Shl 127", Shl(five, 127), api.Num{Hi: 1 << 63}},
		{"Shl 128", Shl(allOnes, 128), api.Num{}},
		{"Shl -1", Shl(five, -1), Of(2)},
		{"Shl -64", Shl(high, -64), five},
		{"Shl -127", Shl(allOnes, -127), Of(1)},
		{"Shl -128", Shl(allOnes, -128), api.Num{}},
		{"Shl least", Shl(allOnes, math.MinInt), api.Num{}},
		{"Shr 0", Shr(high, 0), high},
		{"Shr 1", Shr(api.Num{Hi: 1}, 1), Of(1 << 63)},
		{"Shr 64", Shr(high, 64), five},
		{"Shr 127", Shr(allOnes, 127), Of(1)},
		{"Shr 128", Shr(allOnes, 128), api.Num{}},
		{"Shr -1", Shr(five, -1), Of(10)},
		{"Shr -64", Shr(five, -64), high},
		{"Shr -128", Shr(allOnes, -128), api.Num{}},
		{"Shr least", Shr(allOnes, math.MinInt), api.Num{}},
		{"Shr greatest", Shr(allOnes, math.MaxInt), api.Num{}},
	}
	for _, c := range tests {
		if c.got != c.want {
			t.Errorf("%s = %v, want %v", c.what, c.got, c.want)
		}
	}
}

func TestBitByBit(t *testing.T) {
	for _, a := range sampleNums() {
		if got, want := Not(a), (api.Num{Hi: top - a.Hi, Lo: top - a.Lo}); got != want {
			t.Fatalf("Not(%v) = %v, want %v", a, got, want)
		}
		for _, b := range edgeNums() {
			want, _ := fromBig(new(big.Int).And(toBig(a), toBig(b)))
			if got := And(a, b); got != want {
				t.Fatalf("And(%v, %v) = %v, want %v", a, b, got, want)
			}
			want, _ = fromBig(new(big.Int).Or(toBig(a), toBig(b)))
			if got := Or(a, b); got != want {
				t.Fatalf("Or(%v, %v) = %v, want %v", a, b, got, want)
			}
		}
	}
}

func TestBit(t *testing.T) {
	for _, a := range sampleNums() {
		for k := range 128 {
			if got, want := Bit(a, k), toBig(a).Bit(k) == 1; got != want {
				t.Fatalf("Bit(%v, %d) = %v", a, k, got)
			}
		}
	}
	for _, k := range []int{math.MinInt, -129, -128, -64, -1, 128, 129, 192, 256, math.MaxInt} {
		if Bit(allOnes, k) {
			t.Errorf("Bit(all ones, %d) is true", k)
		}
	}
}

func TestLen(t *testing.T) {
	for _, a := range sampleNums() {
		if got, want := Len(a), toBig(a).BitLen(); got != want {
			t.Fatalf("Len(%v) = %d, want %d", a, got, want)
		}
	}
	if Len(api.Num{}) != 0 || Len(Of(1)) != 1 || Len(Of(top)) != 64 || Len(api.Num{Hi: 1}) != 65 || Len(allOnes) != 128 {
		t.Error("Len at its edges")
	}
}

func TestOnes(t *testing.T) {
	for k := 1; k <= 128; k++ {
		power := new(big.Int).Lsh(big.NewInt(1), uint(k))
		want, _ := fromBig(power.Sub(power, big.NewInt(1)))
		if got := Ones(k); got != want {
			t.Errorf("Ones(%d) = %v, want %v", k, got, want)
		}
	}
	for _, k := range []int{math.MinInt, -128, -64, -1, 0} {
		if got := Ones(k); got != (api.Num{}) {
			t.Errorf("Ones(%d) = %v", k, got)
		}
	}
	for _, k := range []int{128, 129, 192, 256, math.MaxInt} {
		if got := Ones(k); got != allOnes {
			t.Errorf("Ones(%d) = %v", k, got)
		}
	}
}

// P1.3

func TestSmall(t *testing.T) {
	for _, a := range sampleNums() {
		want, wantOK := a.Lo, true
		if a.Hi != 0 {
			want, wantOK = 0, false
		}
		if got, ok := Small(a); got != want || ok != wantOK {
			t.Fatalf("Small(%v) = %d, %v", a, got, ok)
		}
	}
}

func TestPrintAndParse(t *testing.T) {
	for _, a := range sampleNums() {
		text := toBig(a).String()
		if got := Print(a); got != text {
			t.Fatalf("Print(%v) = %q, want %q", a, got, text)
		}
		if got, e := Parse(text); got != a || e != api.OK {
			t.Fatalf("Parse(%q) = %v, %d", text, got, e)
		}
	}
}

func TestPrintAroundPowersOfTen(t *testing.T) {
	power := big.NewInt(1)
	for digits := 1; digits <= 39; digits++ {
		at, _ := fromBig(power)
		below, _ := Sub(at, Of(1))
		if got, want := Print(at), "1"+strings.Repeat("0", digits-1); got != want {
			t.Errorf("Print(10^%d) = %q", digits-1, got)
		}
		want := "0"
		if digits > 1 {
			want = strings.Repeat("9", digits-1)
		}
		if got := Print(below); got != want {
			t.Errorf("Print(10^%d - 1) = %q", digits-1, got)
		}
		power.Mul(power, big.NewInt(10))
	}
}

func TestParseForm(t *testing.T) {
	texts := []string{
		"", "00", "01", "007", "a", "1a", "a1", "12 ", " 12", "1 2", "-1", "+1", "-0", "1.0", "1_000", "0x10",
		"1/2", "1:2", "1\n", "\x00", "1\x00", "\xff", "٣", "１２", "1e5",
		// Also too great, but the form is told ahead of that.
		"0340282366920938463463374607431768211456",
		"340282366920938463463374607431768211456x",
		strings.Repeat("9", 1000) + "x",
		"0" + strings.Repeat("0", 1000),
	}
	for _, text := range texts {
		if got, e := Parse(text); got != (api.Num{}) || e != api.ErrForm {
			t.Errorf("Parse(%q) = %v, %d", text, got, e)
		}
	}
}

func TestParseOver(t *testing.T) {
	texts := []string{
		"340282366920938463463374607431768211456",
		"340282366920938463463374607431768211457",
		"340282366920938463463374607431768211460",
		"400000000000000000000000000000000000000",
		"680564733841876926926749214863536422912",
		"999999999999999999999999999999999999999",
		"1" + strings.Repeat("0", 39),
		"1" + strings.Repeat("0", 200),
		strings.Repeat("9", 100000),
	}
	for _, text := range texts {
		if got, e := Parse(text); got != (api.Num{}) || e != api.ErrOver {
			t.Errorf("Parse of %d digits = %v, %d", len(text), got, e)
		}
	}
}

func TestParseOrdinary(t *testing.T) {
	tests := []struct {
		text string
		want api.Num
	}{
		{"0", api.Num{}},
		{"5", Of(5)},
		{"10", Of(10)},
		{"18446744073709551615", Of(top)},
		{"18446744073709551616", api.Num{Hi: 1}},
		{"340282366920938463463374607431768211454", api.Num{Hi: top, Lo: top - 1}},
		{"340282366920938463463374607431768211455", allOnes},
	}
	for _, c := range tests {
		if got, e := Parse(c.text); got != c.want || e != api.OK {
			t.Errorf("Parse(%q) = %v, %d", c.text, got, e)
		}
	}
}

// P1.4

func TestAddedIsTakenAway(t *testing.T) {
	for _, a := range sampleNums() {
		for _, b := range edgeNums() {
			sum, isTrue := Add(a, b)
			back, backTrue := Sub(sum, b)
			if back != a || backTrue != isTrue {
				t.Fatalf("%v and %v: %v, %v", a, b, back, backTrue)
			}
		}
	}
}

func TestShiftedForthIsShiftedBack(t *testing.T) {
	for _, a := range sampleNums() {
		for k := 0; k <= 128-Len(a) && k < 128; k++ {
			if back := Shr(Shl(a, k), k); back != a {
				t.Fatalf("%v forth and back by %d: %v", a, k, back)
			}
		}
		for k := 0; k < 128 && And(a, Ones(k)) == (api.Num{}); k++ {
			if forth := Shl(Shr(a, k), k); forth != a {
				t.Fatalf("%v back and forth by %d: %v", a, k, forth)
			}
		}
	}
}

func TestOverTimesIsTheNumber(t *testing.T) {
	for _, a := range sampleNums() {
		for _, k := range sampleWords() {
			if k == 0 {
				continue
			}
			quotient, left := Over(a, k)
			product, fits := Times(quotient, k)
			sum, isTrue := Add(product, Of(left))
			if sum != a || !fits || !isTrue || left >= k {
				t.Fatalf("%v over %d: %v, %d", a, k, quotient, left)
			}
		}
	}
}

func TestExamples(t *testing.T) {
	if got := Print(Shl(Of(1), 64)); got != "18446744073709551616" {
		t.Error(got)
	}
	if got, isTrue := Sub(Of(0), Of(1)); got != allOnes || isTrue {
		t.Error(got, isTrue)
	}
}
