// Package num is layer 1: see shared/doc/01-num.md.
package num

import (
	"cmp"
	"math/bits"

	"platbook/api"
)

// width is how many bits a number has, wordBits how many one of its words has.
const (
	width    = 128
	wordBits = 64
)

// mostDigits is how many decimal digits 2^128 - 1 has.
const mostDigits = 39

// Of: a small number.
func Of(n uint64) api.Num {
	return api.Num{Lo: n}
}

// Cmp: which one is less?
func Cmp(a, b api.Num) int {
	if a.Hi != b.Hi {
		return cmp.Compare(a.Hi, b.Hi)
	}
	return cmp.Compare(a.Lo, b.Lo)
}

// Add: the sum, and whether it is the true one.
func Add(a, b api.Num) (api.Num, bool) {
	lo, carry := bits.Add64(a.Lo, b.Lo, 0)
	hi, carry := bits.Add64(a.Hi, b.Hi, carry)
	return api.Num{Hi: hi, Lo: lo}, carry == 0
}

// Sub: the difference, and whether it is the true one.
func Sub(a, b api.Num) (api.Num, bool) {
	lo, borrow := bits.Sub64(a.Lo, b.Lo, 0)
	hi, borrow := bits.Sub64(a.Hi, b.Hi, borrow)
	return api.Num{Hi: hi, Lo: lo}, borrow == 0
}

// Shl: times a power of two.
func Shl(a api.Num, k int) api.Num {
	if shiftsAllOut(k) {
		return api.Num{}
	}
	if k < 0 {
		return right(a, -k)
	}
	return left(a, k)
}

// Shr: divided by a power of two.
func Shr(a api.Num, k int) api.Num {
	if shiftsAllOut(k) {
		return api.Num{}
	}
	if k < 0 {
		return left(a, -k)
	}
	return right(a, k)
}

// shiftsAllOut is asked ahead of turning k's sign: the least int has no
// opposite.
func shiftsAllOut(k int) bool {
	return k <= -width || k >= width
}

// left needs k from 0 to 127.
func left(a api.Num, k int) api.Num {
	if k >= wordBits {
		return api.Num{Hi: a.Lo << (k - wordBits)}
	}
	return api.Num{Hi: a.Hi<<k | a.Lo>>(wordBits-k), Lo: a.Lo << k}
}

// right needs k from 0 to 127.
func right(a api.Num, k int) api.Num {
	if k >= wordBits {
		return api.Num{Lo: a.Hi >> (k - wordBits)}
	}
	return api.Num{Hi: a.Hi >> k, Lo: a.Lo>>k | a.Hi<<(wordBits-k)}
}

// And: bit by bit.
func And(a, b api.Num) api.Num {
	return api.Num{Hi: a.Hi & b.Hi, Lo: a.Lo & b.Lo}
}

// Or: bit by bit.
func Or(a, b api.Num) api.Num {
	return api.Num{Hi: a.Hi | b.Hi, Lo: a.Lo | b.Lo}
}

// Not: bit by bit.
func Not(a api.Num) api.Num {
	return api.Num{Hi: ^a.Hi, Lo: ^a.Lo}
}

// Bit: is one?
func Bit(a api.Num, k int) bool {
	if k < 0 || k >= width {
		return false
	}
	return right(a, k).Lo&1 == 1
}

// Len: how many bits it has.
func Len(a api.Num) int {
	if a.Hi != 0 {
		return wordBits + bits.Len64(a.Hi)
	}
	return bits.Len64(a.Lo)
}

// Ones: so many.
func Ones(k int) api.Num {
	if k < 1 {
		return api.Num{}
	}
	return Not(Shl(Not(api.Num{}), k))
}

// Small: as one word.
func Small(a api.Num) (uint64, bool) {
	if a.Hi != 0 {
		return 0, false
	}
	return a.Lo, true
}

// Times: the product with a word, and whether it is the true one.
func Times(a api.Num, k uint64) (api.Num, bool) {
	carried, lo := bits.Mul64(a.Lo, k)
	lost, upper := bits.Mul64(a.Hi, k)
	hi, carry := bits.Add64(upper, carried, 0)
	return api.Num{Hi: hi, Lo: lo}, lost == 0 && carry == 0
}

// Over: divided by a word, and what is left.
func Over(a api.Num, k uint64) (api.Num, uint64) {
	if k == 0 {
		return api.Num{}, 0
	}
	// What the upper word leaves is below k, as Div64 needs it.
	lo, rest := bits.Div64(a.Hi%k, a.Lo, k)
	return api.Num{Hi: a.Hi / k, Lo: lo}, rest
}

// Print: its digits.
func Print(a api.Num) string {
	var digits [mostDigits]byte
	at := mostDigits
	for at == mostDigits || a != (api.Num{}) {
		rest, digit := Over(a, 10)
		at--
		digits[at] = '0' + byte(digit)
		a = rest
	}
	return string(digits[at:])
}

// Parse: the number of digits.
func Parse(s string) (api.Num, api.Errno) {
	if !isPrinted(s) {
		return api.Num{}, api.ErrForm
	}
	// With no nought ahead, a text that is longer than the greatest number's
	// is above it: so that a long one costs no more than a look at its digits.
	if len(s) > mostDigits {
		return api.Num{}, api.ErrOver
	}
	var a api.Num
	for i := range len(s) {
		tens, fits := Times(a, 10)
		sum, stillFits := Add(tens, Of(uint64(s[i]-'0')))
		if !fits || !stillFits {
			return api.Num{}, api.ErrOver
		}
		a = sum
	}
	return a, api.OK
}

// isPrinted tells whether s has the form that Print gives to a number, however
// great. Parse asks it of the whole text first, since a wrong form is told
// ahead of a number that is too great.
func isPrinted(s string) bool {
	if s == "" || len(s) > 1 && s[0] == '0' {
		return false
	}
	for i := range len(s) {
		if s[i] < '0' || s[i] > '9' {
			return false
		}
	}
	return true
}
