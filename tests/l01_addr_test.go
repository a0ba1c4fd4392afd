package tests

import (
	"fmt"
	"math"
	"math/big"
	"net/netip"
	"strings"
	"testing"

	"loop.example/g00113/impl"
)

const lastNarrow = 4294967295

func narrow(lo int) impl.Addr {
	return impl.Addr{Lo: lo}
}

func wide(hi int, lo int) impl.Addr {
	return impl.Addr{Six: true, Hi: hi, Lo: lo}
}

// wrongAddrs are not AddrOk; each counts as the zero address.
func wrongAddrs() []impl.Addr {
	return []impl.Addr{
		{Hi: 1},
		{Hi: -1},
		{Hi: math.MinInt, Lo: 7},
		{Hi: 1, Lo: lastNarrow},
		{Lo: -1},
		{Lo: lastNarrow + 1},
		{Lo: math.MaxInt},
		{Lo: math.MinInt},
	}
}

// risingAddrs stand in the order that CmpAddr asks for.
func risingAddrs() []impl.Addr {
	words := []int{0, 1, 2, 65535, 65536, lastNarrow, lastNarrow + 1, math.MaxInt - 1, math.MaxInt, math.MinInt, math.MinInt + 1, -2, -1}
	list := []impl.Addr{}
	for _, lo := range []int{0, 1, 255, 256, 65535, 65536, 1<<31 - 1, 1 << 31, lastNarrow - 1, lastNarrow} {
		list = append(list, narrow(lo))
	}
	for _, hi := range words {
		for _, lo := range words {
			list = append(list, wide(hi, lo))
		}
	}
	return list
}

// numberOf is the number of an address, by means that share nothing with the program's.
func numberOf(a impl.Addr) *big.Int {
	n := new(big.Int).SetUint64(uint64(a.Hi))
	n.Lsh(n, 64)
	return n.Add(n, new(big.Int).SetUint64(uint64(a.Lo)))
}

func addrOfNumber(six bool, n *big.Int) impl.Addr {
	lo := new(big.Int).And(n, new(big.Int).SetUint64(math.MaxUint64))
	hi := new(big.Int).Rsh(n, 64)
	return impl.Addr{Six: six, Hi: int(hi.Uint64()), Lo: int(lo.Uint64())}
}

func lastNumber(six bool) *big.Int {
	if six {
		return numberOf(wide(-1, -1))
	}
	return big.NewInt(lastNarrow)
}

func TestAddrOk(t *testing.T) {
	for _, a := range risingAddrs() {
		if !impl.AddrOk(a) {
			t.Error("right, but refused:", a)
		}
	}
	for _, a := range wrongAddrs() {
		if impl.AddrOk(a) {
			t.Error("wrong, but taken:", a)
		}
	}
}

func TestCmpAddrOrder(t *testing.T) {
	list := risingAddrs()
	for i, a := range list {
		for j, b := range list {
			want := 0
			if i < j {
				want = -1
			} else if i > j {
				want = 1
			}
			if got := impl.CmpAddr(a, b); got != want {
				t.Errorf("CmpAddr(%v, %v) = %d, not %d", a, b, got, want)
			}
		}
	}
}

func TestAddToTable(t *testing.T) {
	for _, c := range []struct {
		a    impl.Addr
		n    int
		want impl.Addr
		ok   bool
	}{
		{narrow(0), 0, narrow(0), true},
		{narrow(10), 20, narrow(30), true},
		{narrow(0), lastNarrow, narrow(lastNarrow), true},
		{narrow(lastNarrow), 0, narrow(lastNarrow), true},
		{narrow(lastNarrow), 1, narrow(0), false},
		{narrow(0), lastNarrow + 1, narrow(0), false},
		{narrow(1), math.MaxInt, narrow(0), false},
		{narrow(lastNarrow), math.MaxInt, narrow(0), false},
		{narrow(5), -1, narrow(0), false},
		{narrow(5), math.MinInt, narrow(0), false},
		{wide(0, 0), 0, wide(0, 0), true},
		{wide(0, 0), 1, wide(0, 1), true},
		{wide(0, lastNarrow), 1, wide(0, lastNarrow+1), true},
		{wide(0, math.MaxInt), 1, wide(0, math.MinInt), true},
		{wide(0, -1), 1, wide(1, 0), true},
		{wide(7, -1), math.MaxInt, wide(8, math.MaxInt-1), true},
		{wide(math.MaxInt, -1), 1, wide(math.MinInt, 0), true},
		{wide(-2, -1), 1, wide(-1, 0), true},
		{wide(-1, -1), 0, wide(-1, -1), true},
		{wide(-1, -2), 1, wide(-1, -1), true},
		{wide(-1, math.MinInt), math.MaxInt, wide(-1, -1), true},
		{wide(-1, -1), 1, narrow(0), false},
		{wide(-1, math.MinInt+1), math.MaxInt, narrow(0), false},
		{wide(1, 5), -1, narrow(0), false},
		{wide(1, 5), math.MinInt, narrow(0), false},
	} {
		got, ok := impl.AddTo(c.a, c.n)
		if got != c.want || ok != c.ok {
			t.Errorf("AddTo(%v, %d) = %v, %v, not %v, %v", c.a, c.n, got, ok, c.want, c.ok)
		}
	}
}

func TestGapToTable(t *testing.T) {
	for _, c := range []struct {
		a, b impl.Addr
		want int
		ok   bool
	}{
		{narrow(0), narrow(0), 0, true},
		{narrow(10), narrow(30), 20, true},
		{narrow(0), narrow(lastNarrow), lastNarrow, true},
		{narrow(30), narrow(10), 0, false},
		{narrow(lastNarrow), narrow(0), 0, false},
		{narrow(0), wide(0, 0), 0, false},
		{wide(0, 0), narrow(0), 0, false},
		{narrow(1), wide(0, 5), 0, false},
		{wide(0, 1), narrow(5), 0, false},
		{wide(0, 0), wide(0, 0), 0, true},
		{wide(-1, -1), wide(-1, -1), 0, true},
		{wide(0, -1), wide(1, 0), 1, true},
		{wide(1, -1), wide(2, 1), 2, true},
		{wide(math.MaxInt, -1), wide(math.MinInt, 0), 1, true},
		{wide(0, math.MaxInt), wide(0, math.MinInt), 1, true},
		{wide(0, 0), wide(0, math.MaxInt), math.MaxInt, true},
		{wide(0, 0), wide(0, math.MinInt), 0, false},
		{wide(0, 1), wide(0, math.MinInt), math.MaxInt, true},
		{wide(3, -5), wide(4, math.MaxInt-5), math.MaxInt, true},
		{wide(3, -5), wide(4, math.MaxInt-4), 0, false},
		{wide(0, 0), wide(0, -1), 0, false},
		{wide(0, 0), wide(1, 0), 0, false},
		{wide(0, 5), wide(1, 5), 0, false},
		{wide(0, 0), wide(-1, -1), 0, false},
		{wide(0, 6), wide(0, 5), 0, false},
		{wide(1, 0), wide(0, -1), 0, false},
		{wide(-1, 0), wide(1, 0), 0, false},
		{wide(0, -1), wide(0, 1), 0, false},
	} {
		got, ok := impl.GapTo(c.a, c.b)
		if got != c.want || ok != c.ok {
			t.Errorf("GapTo(%v, %v) = %d, %v, not %d, %v", c.a, c.b, got, ok, c.want, c.ok)
		}
	}
}

func TestAddedIsTheGap(t *testing.T) {
	counts := []int{0, 1, 2, 255, 256, 65536, lastNarrow - 1, lastNarrow, lastNarrow + 1, math.MaxInt - 1, math.MaxInt}
	for _, a := range risingAddrs() {
		for _, n := range counts {
			sum := new(big.Int).Add(numberOf(a), big.NewInt(int64(n)))
			fits := sum.Cmp(lastNumber(a.Six)) <= 0
			want := impl.Addr{}
			if fits {
				want = addrOfNumber(a.Six, sum)
			}
			b, ok := impl.AddTo(a, n)
			if b != want || ok != fits {
				t.Fatalf("AddTo(%v, %d) = %v, %v, not %v, %v", a, n, b, ok, want, fits)
			}
			if !ok {
				continue
			}
			if gap, ok := impl.GapTo(a, b); gap != n || !ok {
				t.Fatalf("GapTo(%v, %v) = %d, %v, but %d was added", a, b, gap, ok, n)
			}
		}
	}
}

func TestGapIsWhatToAdd(t *testing.T) {
	list := risingAddrs()
	for _, a := range list {
		for _, b := range list {
			less := new(big.Int).Sub(numberOf(b), numberOf(a))
			fits := a.Six == b.Six && less.Sign() >= 0 && less.IsInt64()
			want := 0
			if fits {
				want = int(less.Int64())
			}
			gap, ok := impl.GapTo(a, b)
			if gap != want || ok != fits {
				t.Fatalf("GapTo(%v, %v) = %d, %v, not %d, %v", a, b, gap, ok, want, fits)
			}
			if !ok {
				continue
			}
			if back, ok := impl.AddTo(a, gap); back != b || !ok {
				t.Fatalf("AddTo(%v, %d) = %v, %v, not %v", a, gap, back, ok, b)
			}
		}
	}
}

func TestWrongAddrCountsAsZero(t *testing.T) {
	zero := impl.Addr{}
	for _, w := range wrongAddrs() {
		for _, a := range append(risingAddrs(), wrongAddrs()...) {
			if impl.CmpAddr(w, a) != impl.CmpAddr(zero, a) || impl.CmpAddr(a, w) != impl.CmpAddr(a, zero) {
				t.Errorf("CmpAddr of %v and %v is not that of the zero one", w, a)
			}
			n, ok := impl.GapTo(w, a)
			if m, good := impl.GapTo(zero, a); n != m || ok != good {
				t.Errorf("GapTo(%v, %v) = %d, %v, not %d, %v", w, a, n, ok, m, good)
			}
			n, ok = impl.GapTo(a, w)
			if m, good := impl.GapTo(a, zero); n != m || ok != good {
				t.Errorf("GapTo(%v, %v) = %d, %v, not %d, %v", a, w, n, ok, m, good)
			}
		}
		if impl.CmpAddr(w, zero) != 0 || impl.CmpAddr(w, narrow(1)) != -1 || impl.CmpAddr(wide(0, 0), w) != 1 {
			t.Errorf("CmpAddr does not take %v as the zero one", w)
		}
		if n, ok := impl.GapTo(w, narrow(9)); n != 9 || !ok {
			t.Errorf("GapTo(%v, 9) = %d, %v", w, n, ok)
		}
		if n, ok := impl.GapTo(zero, w); n != 0 || !ok {
			t.Errorf("GapTo(0, %v) = %d, %v", w, n, ok)
		}
		if b, ok := impl.AddTo(w, 9); b != narrow(9) || !ok {
			t.Errorf("AddTo(%v, 9) = %v, %v", w, b, ok)
		}
		if b, ok := impl.AddTo(w, lastNarrow); b != narrow(lastNarrow) || !ok {
			t.Errorf("AddTo(%v, the last) = %v, %v", w, b, ok)
		}
		if b, ok := impl.AddTo(w, lastNarrow+1); b != zero || ok {
			t.Errorf("AddTo(%v, past the last) = %v, %v", w, b, ok)
		}
		if b, ok := impl.AddTo(w, -1); b != zero || ok {
			t.Errorf("AddTo(%v, -1) = %v, %v", w, b, ok)
		}
		if s := impl.AddrText(w); s != "0.0.0.0" {
			t.Errorf("AddrText(%v) = %q", w, s)
		}
	}
}

func TestAddrTextTable(t *testing.T) {
	for _, c := range []struct {
		a    impl.Addr
		want string
	}{
		{narrow(0), "0.0.0.0"},
		{narrow(1), "0.0.0.1"},
		{narrow(0x01020304), "1.2.3.4"},
		{narrow(0x0a0000ff), "10.0.0.255"},
		{narrow(0xc0a86401), "192.168.100.1"},
		{narrow(0x80000000), "128.0.0.0"},
		{narrow(lastNarrow), "255.255.255.255"},
		{wide(0, 0), "::"},
		{wide(0, 1), "::1"},
		{wide(0, 65536), "::1:0"},
		{wide(0, -1), "::ffff:ffff:ffff:ffff"},
		{wide(1<<48, 0), "1::"},
		{wide(-1, -1), "ffff:ffff:ffff:ffff:ffff:ffff:ffff:ffff"},
		{wide(math.MinInt, math.MinInt), "8000::8000:0:0:0"},
		{wide(math.MaxInt, math.MaxInt), "7fff:ffff:ffff:ffff:7fff:ffff:ffff:ffff"},
		{wide(0x0001000200030004, 0x0005000600070008), "1:2:3:4:5:6:7:8"},
		{wide(0x00ab0abc00cd000e, 0x0010010010001000), "ab:abc:cd:e:10:100:1000:1000"},
		// A row of one group is written out.
		{wide(0x0000000200030004, 0x0005000600070008), "0:2:3:4:5:6:7:8"},
		{wide(0x0001000200030000, 0x0005000600070008), "1:2:3:0:5:6:7:8"},
		{wide(0x0001000200030004, 0x0005000600070000), "1:2:3:4:5:6:7:0"},
		{wide(0x0001000000020000, 0x0003000000040000), "1:0:2:0:3:0:4:0"},
		// A row at the beginning, in the midst, at the end.
		{wide(0x0000000000030004, 0x0005000600070008), "::3:4:5:6:7:8"},
		{wide(0x0001000200000000, 0x0005000600070008), "1:2::5:6:7:8"},
		{wide(0x0001000200030000, 0x0000000600070008), "1:2:3::6:7:8"},
		{wide(0x0001000200030004, 0x0005000600000000), "1:2:3:4:5:6::"},
		{wide(0, 8), "::8"},
		// Of two rows of the same length the first, else the longer.
		{wide(0x0001000000000002, 0x0000000000030004), "1::2:0:0:3:4"},
		{wide(0x0000000000010002, 0x0003000400000000), "::1:2:3:4:0:0"},
		{wide(0x0000000000000001, 0x0002000000000000), "::1:2:0:0:0"},
		{wide(0x0001000000000002, 0x0000000000000003), "1:0:0:2::3"},
		{wide(0x0000000000010000, 0x0000000000010001), "0:0:1::1:1"},
		{wide(0x0000000100000000, 0x0002000000000000), "0:1:0:0:2::"},
	} {
		if got := impl.AddrText(c.a); got != c.want {
			t.Errorf("AddrText(%v) = %q, not %q", c.a, got, c.want)
		}
		if a, ok := impl.ParseAddr(c.want); a != c.a || !ok {
			t.Errorf("ParseAddr(%q) = %v, %v, not %v", c.want, a, ok, c.a)
		}
	}
}

// netText is the text of an address as the library's netip writes it, but for those that it writes with dots at the end.
func netText(n netip.Addr) string {
	b := n.As16()
	if n.Is4In6() {
		return fmt.Sprintf("::ffff:%x:%x", int(b[12])<<8|int(b[13]), int(b[14])<<8|int(b[15]))
	}
	return n.String()
}

func netOf(a impl.Addr) netip.Addr {
	if !a.Six {
		return netip.AddrFrom4([4]byte{byte(a.Lo >> 24), byte(a.Lo >> 16), byte(a.Lo >> 8), byte(a.Lo)})
	}
	b := [16]byte{}
	for i := range 8 {
		b[i] = byte(a.Hi >> (56 - 8*i))
		b[8+i] = byte(a.Lo >> (56 - 8*i))
	}
	return netip.AddrFrom16(b)
}

// manyAddrs have each choice of groups that are 0, with small and with great groups beside.
func manyAddrs() []impl.Addr {
	list := risingAddrs()
	for mask := range 256 {
		for _, fill := range []int{1, 0xa0, 0xfff, 0x1000, 0xffff} {
			words := [2]int{}
			for i := range 8 {
				group := 0
				if mask>>i&1 == 1 {
					group = fill
				}
				words[i/4] = words[i/4]<<16 | group
			}
			list = append(list, wide(words[0], words[1]))
		}
	}
	for a := range 256 {
		for place := range 4 {
			list = append(list, narrow(a<<(8*place)))
		}
	}
	return list
}

func TestAddrsComeBackOfTheirTexts(t *testing.T) {
	seen := map[string]impl.Addr{}
	for _, a := range manyAddrs() {
		s := impl.AddrText(a)
		if want := netText(netOf(a)); s != want {
			t.Fatalf("AddrText(%v) = %q, not %q", a, s, want)
		}
		if b, ok := impl.ParseAddr(s); b != a || !ok {
			t.Fatalf("ParseAddr(%q) = %v, %v, not %v", s, b, ok, a)
		}
		if b, ok := seen[s]; ok && b != a {
			t.Fatalf("%v and %v have one text %q", a, b, s)
		}
		seen[s] = a
	}
}

func TestParseAddrNone(t *testing.T) {
	for _, s := range []string{
		"", " ", "a", "1", "-1", "16909060",
		// Of 32 bits: needless noughts, numbers too great, parts too few, too many or empty, signs that are no digits.
		"01.2.3.4", "1.02.3.4", "1.2.003.4", "1.2.3.00", "00.0.0.0", "1.2.3.04",
		"256.2.3.4", "1.2.3.256", "1.2.3.999", "1.2.3.4294967296", "1.2.3.18446744073709551616",
		".", "...", "1.2.3", "1.2.3.", ".2.3.4", "1..3.4", "1.2.3.4.", ".1.2.3.4", "1.2.3.4.5", "1.2.3.4.5.6.7.8", "1.2.3.4.5.6.7.8.9",
		"a.2.3.4", "1.2.3.f", "0x1.2.3.4", "+1.2.3.4", "-1.2.3.4", "1.2.3.-0", " 1.2.3.4", "1.2.3.4 ", "1.2.3. 4", "1,2,3,4", "1.2.3.4\n", "1.2.3.4\x00", "1.2.3.4/8",
		"1.2.3.\u0664", "\uff11.2.3.4", "1\uff0e2.3.4", "1.2.3.4\xff", "\xff.2.3.4", "1.2.\xc0\xb1.4", "1.2.3.\xb4", "1.2.3.4\ufffd",
		// Of 128 bits: needless noughts, capital letters, numbers too great, parts too few or too many.
		"::01", "::0001", "01::", "1:02:3:4:5:6:7:8", "2001:0db8::1", "1:2:3:4:5:6:7:00",
		"FE80::", "fe80::A", "::Ffff", "::FFFF", "2001:dB8::1",
		"::10000", "::12345", "10000::", "1:2:3:4:5:6:7:10000", "::ffffffff", "::ffffffffffffffff", "::10000000000000001",
		"1:2:3:4:5:6:7", "1:2:3:4:5:6:7:8:9", "1:2:3:4:5:6:7:8:", ":1:2:3:4:5:6:7:8", "1:2:3:4:5:6:7:", ":2:3:4:5:6:7:8", "1:",
		// `::` where it does not belong, or twice, or not where it belongs.
		":", ":::", "::::", ":::::::", "::::::::", ":::1", "1:::", "1:::2", "::1:", ":1::", "::1::", "1::2::3", "::1::2", "1::2::",
		"0:0:0:0:0:0:0:0", "0:0:0:0:0:0:0:1", "1:0:0:0:0:0:0:0", "::0", "0::", "0::0", "::0:1", "0::1", "1::0", "1:0::", "::0:0:0:0:0:0:0",
		"::2:3:4:5:6:7:8", "1::3:4:5:6:7:8", "1:2:3:4:5:6:7::", "1:2:3::5:6:7:8", "1:2:3:4:5:6:7::8", "::1:2:3:4:5:6:7:8", "1:2:3:4:5:6:7:8::", "1:2:3:4::5:6:7:8",
		"1:0:0:2:0:0:3:4", "1:0:0:2::3:4", "0:0:1:2:3:4::", "1::2:0:0:0:3", "1:0:0:2:0:0:3:4:5", "0:0:1:0:0:0:1:1", "::1:0:0:0:1:1", "1:0::2",
		// Other writings, and signs that are no such digits.
		"::1.2.3.4", "::ffff:1.2.3.4", "1.2.3.4::", "1:2:3:4:5:6:1.2.3.4", "[::1]", "::1%1", "::1%eth0", "::1/128", "::g", "::-1", "::+1", ":: 1", " ::1", "::1 ", "::1\n", "::0x1", "1;2", "::\x00",
		"::\u0661", "\uff1a\uff1a", "\uff1a:1", "::\uff41", "::\xff", "\xff::", "::1\xff", "\x3a\xba", "::\xe2\x82", "::\ufffd",
	} {
		if a, ok := impl.ParseAddr(s); ok || a != (impl.Addr{}) {
			t.Errorf("ParseAddr(%q) = %v, %v, not the zero one and false", s, a, ok)
		}
	}
}

// netAddr is the address whose text s is, as far as the library's netip tells it.
func netAddr(s string) (netip.Addr, bool) {
	n, err := netip.ParseAddr(s)
	if err != nil || n.Zone() != "" || netText(n) != s {
		return netip.Addr{}, false
	}
	return n, true
}

func checkParse(t *testing.T, s string) {
	t.Helper()
	a, ok := impl.ParseAddr(s)
	n, want := netAddr(s)
	if ok != want || ok && (netOf(a) != n || impl.AddrText(a) != s) || !ok && a != (impl.Addr{}) {
		t.Fatalf("ParseAddr(%q) = %v, %v, not %v, %v", s, a, ok, n, want)
	}
}

func TestParseAddrOfTextsNearby(t *testing.T) {
	signs := []string{"", "0", "1", "9", "a", "f", "g", "A", "F", ".", ":", "::", "-", " ", "00", "\x00", "\xff", "\u0661"}
	for _, s := range []string{
		"0.0.0.0", "1.2.3.4", "10.0.0.255", "255.255.255.255", "::", "::1", "1::", "::ffff:1:2", "fe80::1:0:0:2", "1:0:0:2::3",
		"1:2:3:4:5:6:7:8", "0:2:3:4:5:6:7:0", "1:0:2:0:3:0:4:0", "::3:4:5:6:7:8", "1:2:3:4:5:6::", "1:2:3::6:7:8", "::1:2:0:0:0",
		"ffff:ffff:ffff:ffff:ffff:ffff:ffff:ffff",
	} {
		checkParse(t, s)
		for from := range len(s) + 1 {
			for to := from; to <= min(from+2, len(s)); to++ {
				for _, sign := range signs {
					checkParse(t, s[:from]+sign+s[to:])
				}
			}
		}
	}
}

func TestParseAddrOfAllShortTexts(t *testing.T) {
	signs := []string{"0", "1", ":", ".", "a", "F"}
	texts := []string{""}
	for range 7 {
		longer := []string{}
		for _, s := range texts {
			checkParse(t, s)
			for _, sign := range signs {
				longer = append(longer, s+sign)
			}
		}
		texts = longer
	}
	for _, s := range texts {
		checkParse(t, s)
	}
}

func TestParseAddrOfAllRows(t *testing.T) {
	parts := []string{"0:", "1:", ":"}
	for code := range 19683 {
		s := ""
		for i := range 9 {
			s += parts[code%3]
			code /= 3
			checkParse(t, s)
			if i > 0 {
				checkParse(t, s[:len(s)-1])
			}
		}
	}
}

func TestParseAddrOfLongTexts(t *testing.T) {
	for _, sign := range []string{"0", "1", "f", ".", ":", "1.", "1:", "0:", "::", "\xff"} {
		checkParse(t, strings.Repeat(sign, 100000))
		checkParse(t, "1.2.3."+strings.Repeat(sign, 100000))
		checkParse(t, "::"+strings.Repeat(sign, 100000))
	}
}
