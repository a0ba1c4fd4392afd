package impl

import (
	"math"
	"math/bits"
	"slices"
	"strconv"
	"strings"
)

type Addr struct {
	Six bool
	Hi  int
	Lo  int
}

const lastOf32 = 1<<32 - 1

// How many groups of how many bits a text has, with which digits and which sign between.
const (
	groupsOf32  = 4
	bitsOf32    = 8
	baseOf32    = 10
	betweenOf32 = '.'

	groupsOf128  = 8
	bitsOf128    = 16
	baseOf128    = 16
	betweenOf128 = ':'
)

// noNumber stands in a group of a text that has no digits.
const noNumber = -1

func AddrOk(a Addr) bool {
	return a.Six || a.Hi == 0 && 0 <= a.Lo && a.Lo <= lastOf32
}

func CmpAddr(a Addr, b Addr) int {
	x, y := rankOf(a), rankOf(b)
	if x == y {
		return 0
	}
	return slices.Compare(x[:], y[:])
}

func AddTo(a Addr, n int) (Addr, bool) {
	if n < 0 {
		return Addr{}, false
	}
	a = addrOrZero(a)
	lo, carry := bits.Add64(uint64(a.Lo), uint64(n), 0)
	hi, past := bits.Add64(uint64(a.Hi), 0, carry)
	sum := Addr{Six: a.Six, Hi: int(hi), Lo: int(lo)}
	if past != 0 || !AddrOk(sum) {
		return Addr{}, false
	}
	return sum, true
}

func GapTo(a Addr, b Addr) (int, bool) {
	a, b = addrOrZero(a), addrOrZero(b)
	lo, borrow := bits.Sub64(uint64(b.Lo), uint64(a.Lo), 0)
	hi, below := bits.Sub64(uint64(b.Hi), uint64(a.Hi), borrow)
	if a.Six != b.Six || below != 0 || hi != 0 || lo > math.MaxInt64 {
		return 0, false
	}
	return int(lo), true
}

func AddrText(a Addr) string {
	a = addrOrZero(a)
	if a.Six {
		return textOf128(groupsOfAddr(a))
	}
	return textOf32(a)
}

// What was read is written again: that alone tells the one text of an address from all others that mean it.
func ParseAddr(s string) (Addr, bool) {
	a, ok := readOf32(s)
	if !ok {
		a, ok = readOf128(s)
	}
	if !ok || AddrText(a) != s {
		return Addr{}, false
	}
	return a, true
}

// width is how many bits an address of its kind has.
func (a Addr) width() int {
	if a.Six {
		return groupsOf128 * bitsOf128
	}
	return groupsOf32 * bitsOf32
}

// cleared is the address whose last count bits are 0.
func (a Addr) cleared(count int) Addr {
	hi, lo := lastBits(count)
	return Addr{Six: a.Six, Hi: a.Hi &^ hi, Lo: a.Lo &^ lo}
}

// filled is the address whose last count bits are 1.
func (a Addr) filled(count int) Addr {
	hi, lo := lastBits(count)
	return Addr{Six: a.Six, Hi: a.Hi | hi, Lo: a.Lo | lo}
}

// lastBits has 1 in the last count of 128 bits, and leans on a shift by 64 leaving nothing of a word.
func lastBits(count int) (int, int) {
	hi := uint64(1)<<max(count-64, 0) - 1
	lo := uint64(1)<<count - 1
	return int(hi), int(lo)
}

func addrOrZero(a Addr) Addr {
	if AddrOk(a) {
		return a
	}
	return Addr{}
}

// rankOf has the words by which addresses are ordered, the weightiest first and without a sign.
func rankOf(a Addr) [3]uint64 {
	a = addrOrZero(a)
	if a.Six {
		return [3]uint64{1, uint64(a.Hi), uint64(a.Lo)}
	}
	return [3]uint64{0, 0, uint64(a.Lo)}
}

func textOf32(a Addr) string {
	var list [groupsOf32]int
	for i := range list {
		list[i] = a.Lo >> (bitsOf32 * (groupsOf32 - 1 - i)) & (1<<bitsOf32 - 1)
	}
	return joinNumbers(list[:], betweenOf32, baseOf32)
}

func textOf128(groups [groupsOf128]int) string {
	from, to := longestRow(groups)
	if to-from < 2 {
		return joinNumbers(groups[:], betweenOf128, baseOf128)
	}
	ahead := joinNumbers(groups[:from], betweenOf128, baseOf128)
	behind := joinNumbers(groups[to:], betweenOf128, baseOf128)
	return ahead + "::" + behind
}

func groupsOfAddr(a Addr) [groupsOf128]int {
	var groups [groupsOf128]int
	hi, lo := uint64(a.Hi), uint64(a.Lo)
	for i := groupsOf128 - 1; i >= 0; i-- {
		groups[i] = int(lo & (1<<bitsOf128 - 1))
		lo = lo>>bitsOf128 | hi<<(64-bitsOf128)
		hi >>= bitsOf128
	}
	return groups
}

// longestRow tells where the longest row of groups of 0 begins, and the place behind it; of several the first.
func longestRow(groups [groupsOf128]int) (int, int) {
	from, to := 0, 0
	begin := 0
	for i, g := range groups {
		if g != 0 {
			begin = i + 1
		} else if i+1-begin > to-from {
			from, to = begin, i+1
		}
	}
	return from, to
}

func joinNumbers(list []int, between rune, base int) string {
	texts := make([]string, len(list))
	for i, n := range list {
		texts[i] = strconv.FormatInt(int64(n), base)
	}
	return strings.Join(texts, string(between))
}

func readOf32(s string) (Addr, bool) {
	list, count, ok := readNumbers(s, betweenOf32, baseOf32, 1<<bitsOf32-1)
	if !ok || count != groupsOf32 {
		return Addr{}, false
	}
	a := Addr{}
	for _, n := range list[:count] {
		if n == noNumber {
			return Addr{}, false
		}
		a.Lo = a.Lo<<bitsOf32 | n
	}
	return a, true
}

func readOf128(s string) (Addr, bool) {
	list, count, ok := readNumbers(s, betweenOf128, baseOf128, 1<<bitsOf128-1)
	if !ok {
		return Addr{}, false
	}
	groups, ok := spreadGroups(list[:count])
	if !ok {
		return Addr{}, false
	}
	hi, lo := uint64(0), uint64(0)
	for _, g := range groups {
		hi = hi<<bitsOf128 | lo>>(64-bitsOf128)
		lo = lo<<bitsOf128 | uint64(g)
	}
	return Addr{Six: true, Hi: int(hi), Lo: int(lo)}, true
}

// spreadGroups puts the numbers ahead of `::` at the beginning and those behind it at the end.
func spreadGroups(list []int) ([groupsOf128]int, bool) {
	var groups [groupsOf128]int
	ahead := slices.Index(list, noNumber)
	if ahead < 0 {
		copy(groups[:], list)
		return groups, len(list) == groupsOf128
	}
	behind := len(list)
	for list[behind-1] != noNumber {
		behind--
	}
	copy(groups[:], list[:ahead])
	copy(groups[groupsOf128-(len(list)-behind):], list[behind:])
	return groups, true
}

// readNumbers has the numbers of s, of at most most each, and how many there are; noNumber where there are no digits.
func readNumbers(s string, between rune, base int, most int) ([groupsOf128]int, int, bool) {
	var list [groupsOf128]int
	at := 0
	list[at] = noNumber
	for _, r := range s {
		if r == between {
			at++
			if at == len(list) {
				return list, 0, false
			}
			list[at] = noNumber
			continue
		}
		digit, ok := digitOf(r, base)
		if !ok {
			return list, 0, false
		}
		list[at] = max(list[at], 0)*base + digit
		if list[at] > most {
			return list, 0, false
		}
	}
	return list, at + 1, true
}

func digitOf(r rune, base int) (int, bool) {
	digit := noNumber
	switch {
	case '0' <= r && r <= '9':
		digit = int(r - '0')
	case 'a' <= r && r <= 'f':
		digit = int(r-'a') + 10
	}
	return digit, 0 <= digit && digit < base
}
