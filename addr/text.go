package addr

import (
	"strconv"
	"strings"

	"platbook/api"
	"platbook/num"
)

// shortBytes is how many bytes the text of a short address tells, longGroups
// how many groups that of a long one does, when none is left out.
const (
	shortBytes = shortBits / byteBits
	longGroups = longBits / groupBits
)

// A group has groupBits bits, and groupDigits digits at most.
const (
	groupBits   = 16
	groupDigits = 4
)

// Print: an address's text.
func Print(a api.Addr) string {
	if !Right(a) {
		return ""
	}
	if a.V6 {
		return printLong(a)
	}
	return printShort(a)
}

func printShort(a api.Addr) string {
	return strings.Join(printPieces(a, byteBits, 10), ".")
}

func printLong(a api.Addr) string {
	texts := printPieces(a, groupBits, 16)
	from, to := leftOut(texts)
	if from == to {
		return strings.Join(texts, ":")
	}
	return strings.Join(texts[:from], ":") + "::" + strings.Join(texts[to:], ":")
}

func printPieces(a api.Addr, size int, base int) []string {
	var texts []string
	for at := range Width(a) / size {
		texts = append(texts, strconv.FormatUint(piece(a, size, at), base))
	}
	return texts
}

// leftOut is the row of groups, from the first one up to the second one, in
// whose place two colons stand. Without such a row both are 0.
func leftOut(texts []string) (int, int) {
	// A single group is no row, so one that is found must be longer.
	best, most := 0, 1
	start := 0
	for at, text := range texts {
		if text != "0" {
			start = at + 1
		} else if length := at + 1 - start; length > most {
			best, most = start, length
		}
	}
	if most == 1 {
		return 0, 0
	}
	return best, best + most
}

// Parse: the address of a text.
func Parse(s string) (api.Addr, api.Errno) {
	isLong := strings.Contains(s, ":")
	var n api.Num
	var ok bool
	if isLong {
		n, ok = readLong(s)
	} else {
		n, ok = readShort(s)
	}
	if !ok {
		return api.Addr{}, api.ErrForm
	}
	return api.Addr{V6: isLong, N: n}, api.OK
}

func readShort(s string) (api.Num, bool) {
	var n api.Num
	for at := range shortBytes {
		digits, rest, more := strings.Cut(s, ".")
		value, e := num.Parse(digits)
		isLast := at == shortBytes-1
		if e != api.OK || num.Len(value) > byteBits || more == isLast {
			return api.Num{}, false
		}
		n = num.Or(num.Shl(n, byteBits), value)
		s = rest
	}
	return n, true
}

// groups are some that stand side by side in a text: the number that they make,
// and how many they are.
type groups struct {
	n     api.Num
	count int
}

// with is g with so many more behind it, which make the number n.
func (g groups) with(n api.Num, count int) groups {
	return groups{n: num.Or(num.Shl(g.n, groupBits*count), n), count: g.count + count}
}

func readLong(s string) (api.Num, bool) {
	head, tail, cut := strings.Cut(s, "::")
	if !cut {
		all, ok := readGroups(s, true)
		if !ok || all.count != longGroups {
			return api.Num{}, false
		}
		return all.n, true
	}
	// Groups ahead of two colons are never the last ones, even if nothing
	// follows: the colons stand for one group at least.
	before, ok := readGroups(head, false)
	behind, alsoOk := readGroups(tail, true)
	missing := longGroups - before.count - behind.count
	if !ok || !alsoOk || missing < 1 {
		return api.Num{}, false
	}
	return before.with(api.Num{}, missing).with(behind.n, behind.count).n, true
}

// readGroups reads the groups of s, of an empty text none. It gives up at the
// first one too many, so that a long text costs no more. Only where they are an
// address's last ones may a short address stand for two of them.
func readGroups(s string, areLast bool) (groups, bool) {
	var read groups
	for more := s != ""; more; {
		var part string
		part, s, more = strings.Cut(s, ":")
		if n, ok := readGroup(part); ok {
			read = read.with(n, 1)
		} else if n, ok := readShort(part); ok && areLast && !more {
			read = read.with(n, shortBits/groupBits)
		} else {
			return groups{}, false
		}
		if read.count > longGroups {
			return groups{}, false
		}
	}
	return read, true
}

func readGroup(s string) (api.Num, bool) {
	if len(s) > groupDigits {
		return api.Num{}, false
	}
	n, err := strconv.ParseUint(s, 16, groupBits)
	if err != nil {
		return api.Num{}, false
	}
	return num.Of(n), true
}
