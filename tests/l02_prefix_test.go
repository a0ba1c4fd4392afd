package tests

import (
	"math"
	"math/big"
	"math/rand"
	"net/netip"
	"slices"
	"strconv"
	"strings"
	"testing"

	"loop.example/g00113/impl"
)

const mostPrefixes = 300

func widthOf(six bool) int {
	if six {
		return 128
	}
	return 32
}

func sizeOf(p impl.Prefix) int {
	return widthOf(p.At.Six) - p.Bits
}

// countOf is how many addresses a right prefix has.
func countOf(p impl.Prefix) *big.Int {
	return new(big.Int).Lsh(big.NewInt(1), uint(sizeOf(p)))
}

func endOf(p impl.Prefix) *big.Int {
	return new(big.Int).Add(numberOf(p.At), countOf(p))
}

// prefixAt is the prefix of so many bits around a, by means that share nothing with the program's.
func prefixAt(a impl.Addr, bits int) impl.Prefix {
	free := uint(widthOf(a.Six) - bits)
	n := numberOf(a)
	n.Rsh(n, free)
	n.Lsh(n, free)
	return impl.Prefix{At: addrOfNumber(a.Six, n), Bits: bits}
}

func prefixOfText(t *testing.T, s string) impl.Prefix {
	t.Helper()
	n, err := netip.ParsePrefix(s)
	if err != nil || n.Masked() != n {
		t.Fatal("no prefix:", s)
	}
	if n.Addr().Is4() {
		b := n.Addr().As4()
		return impl.Prefix{At: narrow(int(b[0])<<24 | int(b[1])<<16 | int(b[2])<<8 | int(b[3])), Bits: n.Bits()}
	}
	b := n.Addr().As16()
	return impl.Prefix{At: addrOfNumber(true, new(big.Int).SetBytes(b[:])), Bits: n.Bits()}
}

func prefixesOfTexts(t *testing.T, texts string) []impl.Prefix {
	t.Helper()
	list := []impl.Prefix{}
	for _, s := range strings.Fields(texts) {
		list = append(list, prefixOfText(t, s))
	}
	return list
}

// textsOf writes what the program may get wrong too, so it does not lean on PrefixText.
func textsOf(list []impl.Prefix) string {
	texts := []string{}
	for _, p := range list {
		texts = append(texts, netText(netOf(p.At))+"/"+strconv.Itoa(p.Bits))
	}
	return strings.Join(texts, " ")
}

func sameList(a []impl.Prefix, b []impl.Prefix) bool {
	return slices.Equal(a, b)
}

// wrongPrefixes are not PrefixOk.
func wrongPrefixes() []impl.Prefix {
	list := []impl.Prefix{
		{At: narrow(0), Bits: -1},
		{At: narrow(0), Bits: 33},
		{At: narrow(0), Bits: 64},
		{At: narrow(0), Bits: 128},
		{At: narrow(0), Bits: math.MaxInt},
		{At: narrow(0), Bits: math.MinInt},
		{At: narrow(0), Bits: math.MinInt + 32},
		{At: narrow(lastNarrow), Bits: 33},
		{At: narrow(1), Bits: 31},
		{At: narrow(1), Bits: 0},
		{At: narrow(1 << 31), Bits: 0},
		{At: narrow(0x0a000001), Bits: 24},
		{At: narrow(lastNarrow), Bits: 31},
		{At: wide(0, 0), Bits: -1},
		{At: wide(0, 0), Bits: 129},
		{At: wide(0, 0), Bits: 256},
		{At: wide(0, 0), Bits: math.MaxInt},
		{At: wide(0, 0), Bits: math.MinInt},
		{At: wide(0, 0), Bits: math.MinInt + 128},
		{At: wide(-1, -1), Bits: 129},
		{At: wide(0, 1), Bits: 127},
		{At: wide(0, 1), Bits: 64},
		{At: wide(0, 1), Bits: 0},
		{At: wide(0, math.MinInt), Bits: 64},
		{At: wide(0, math.MinInt), Bits: 63},
		{At: wide(1, 0), Bits: 63},
		{At: wide(1, 0), Bits: 0},
		{At: wide(math.MinInt, 0), Bits: 0},
		{At: wide(-1, -1), Bits: 127},
		{At: wide(-1, -1), Bits: 64},
		{At: wide(-1, 1), Bits: 64},
	}
	for _, a := range wrongAddrs() {
		for _, bits := range []int{-1, 0, 8, 32, 33, 64, 128} {
			list = append(list, impl.Prefix{At: a, Bits: bits})
		}
	}
	return list
}

// rightPrefixes have each count of bits of both widths, around several addresses.
func rightPrefixes() []impl.Prefix {
	around := []impl.Addr{
		narrow(0), narrow(0x55555555), narrow(0x0a0000ff), narrow(lastNarrow),
		wide(0, 0), wide(0x5555555555555555, 0x5555555555555555), wide(0x20010db800000001, 0x7fff00000000ffff), wide(1, math.MinInt), wide(-1, -1),
	}
	list := []impl.Prefix{}
	for _, a := range around {
		for bits := range widthOf(a.Six) + 1 {
			list = append(list, prefixAt(a, bits))
		}
	}
	return list
}

func fewPrefixes() []impl.Prefix {
	list := []impl.Prefix{}
	for _, p := range rightPrefixes() {
		switch p.Bits {
		case 0, 1, 2, 8, 24, 31, 32, 33, 63, 64, 65, 126, 127, 128:
			list = append(list, p)
		}
	}
	return list
}

func TestPrefixOk(t *testing.T) {
	for _, p := range rightPrefixes() {
		if !impl.PrefixOk(p) {
			t.Error("right, but refused:", p)
		}
		if p.Bits > 0 && numberOf(p.At).Sign() > 0 && impl.PrefixOk(impl.Prefix{At: p.At, Bits: 0}) {
			t.Error("bits behind the first 0, but taken:", p.At)
		}
		for free := range sizeOf(p) {
			n := numberOf(p.At)
			n.SetBit(n, free, 1)
			if q := (impl.Prefix{At: addrOfNumber(p.At.Six, n), Bits: p.Bits}); impl.PrefixOk(q) {
				t.Fatal("a bit behind the first Bits, but taken:", q)
			}
		}
	}
	for _, p := range wrongPrefixes() {
		if impl.PrefixOk(p) {
			t.Error("wrong, but taken:", p)
		}
	}
}

// A wrong prefix has no addresses and overlaps none, in every place where a prefix may be handed in.
func TestWrongPrefixEverywhere(t *testing.T) {
	zero, none := impl.Prefix{}, impl.Addr{}
	for _, w := range wrongPrefixes() {
		if a, ok := impl.LastOf(w); ok || a != none {
			t.Errorf("LastOf(%v) = %v, %v", w, a, ok)
		}
		for _, a := range append(risingAddrs(), w.At) {
			if impl.HasAddr(w, a) {
				t.Errorf("HasAddr(%v, %v)", w, a)
			}
			if n, ok := impl.PlaceOf(w, a); ok || n != 0 {
				t.Errorf("PlaceOf(%v, %v) = %d, %v", w, a, n, ok)
			}
		}
		for _, n := range []int{math.MinInt, -1, 0, 1, lastNarrow, math.MaxInt} {
			if a, ok := impl.NthOf(w, n); ok || a != none {
				t.Errorf("NthOf(%v, %d) = %v, %v", w, n, a, ok)
			}
		}
		for _, q := range append(append(fewPrefixes(), wrongPrefixes()...), w) {
			if impl.Within(w, q) || impl.Within(q, w) || impl.Overlaps(w, q) || impl.Overlaps(q, w) {
				t.Errorf("%v lies within or overlaps %v", w, q)
			}
		}
		if p, q, ok := impl.Halves(w); ok || p != zero || q != zero {
			t.Errorf("Halves(%v) = %v, %v, %v", w, p, q, ok)
		}
		if p, ok := impl.Above(w); ok || p != zero {
			t.Errorf("Above(%v) = %v, %v", w, p, ok)
		}
		if p, ok := impl.Sibling(w); ok || p != zero {
			t.Errorf("Sibling(%v) = %v, %v", w, p, ok)
		}
		if s := impl.PrefixText(w); s != "" {
			t.Errorf("PrefixText(%v) = %q", w, s)
		}
		right := impl.Prefix{At: narrow(0x0a000000), Bits: 8}
		for _, list := range [][]impl.Prefix{{w}, {w, right}, {right, w}, {right, w, right}, {zero, w}} {
			if got := impl.Collapse(list); len(got) != 0 {
				t.Errorf("Collapse(%v) = %v", list, got)
			}
			if got := impl.Without(right, list); len(got) != 0 {
				t.Errorf("Without(%v, %v) = %v", right, list, got)
			}
		}
		for _, list := range [][]impl.Prefix{nil, {}, {right}, {w}} {
			if got := impl.Without(w, list); len(got) != 0 {
				t.Errorf("Without(%v, %v) = %v", w, list, got)
			}
		}
	}
}

func TestPrefixOf(t *testing.T) {
	for _, a := range risingAddrs() {
		width := widthOf(a.Six)
		for bits := range width + 1 {
			p, ok := impl.PrefixOf(a, bits)
			if want := prefixAt(a, bits); p != want || !ok {
				t.Fatalf("PrefixOf(%v, %d) = %v, %v, not %v", a, bits, p, ok, want)
			}
			if !impl.PrefixOk(p) || !impl.HasAddr(p, a) {
				t.Fatalf("PrefixOf(%v, %d) = %v is not right, or lacks the address", a, bits, p)
			}
		}
		for _, bits := range []int{-1, width + 1, -width, 2*width + 1, 129, math.MinInt, math.MinInt + 32, math.MaxInt} {
			if p, ok := impl.PrefixOf(a, bits); ok || p != (impl.Prefix{}) {
				t.Fatalf("PrefixOf(%v, %d) = %v, %v", a, bits, p, ok)
			}
		}
	}
}

// An Addr that is not AddrOk counts as the zero one; but no prefix has it, and it has no place.
func TestWrongAddrInPrefixes(t *testing.T) {
	for _, w := range wrongAddrs() {
		for bits := -1; bits <= 129; bits++ {
			p, ok := impl.PrefixOf(w, bits)
			if q, good := impl.PrefixOf(impl.Addr{}, bits); p != q || ok != good {
				t.Fatalf("PrefixOf(%v, %d) = %v, %v, not %v, %v", w, bits, p, ok, q, good)
			}
		}
		for _, p := range fewPrefixes() {
			if impl.HasAddr(p, w) {
				t.Fatalf("HasAddr(%v, %v)", p, w)
			}
			if n, ok := impl.PlaceOf(p, w); ok || n != 0 {
				t.Fatalf("PlaceOf(%v, %v) = %d, %v", p, w, n, ok)
			}
		}
	}
}

func TestFirstAndLast(t *testing.T) {
	one := big.NewInt(1)
	for _, p := range rightPrefixes() {
		lastN := new(big.Int).Sub(endOf(p), one)
		last, ok := impl.LastOf(p)
		if last != addrOfNumber(p.At.Six, lastN) || !ok {
			t.Fatalf("LastOf(%v) = %v, %v", p, last, ok)
		}
		if !impl.HasAddr(p, p.At) || !impl.HasAddr(p, last) {
			t.Fatalf("%v lacks its first or its last address", p)
		}
		if ahead := new(big.Int).Sub(numberOf(p.At), one); ahead.Sign() >= 0 && impl.HasAddr(p, addrOfNumber(p.At.Six, ahead)) {
			t.Fatalf("%v has the address ahead of its first one", p)
		}
		if behind := endOf(p); behind.Cmp(lastNumber(p.At.Six)) <= 0 && impl.HasAddr(p, addrOfNumber(p.At.Six, behind)) {
			t.Fatalf("%v has the address behind its last one", p)
		}
	}
}

func TestHasAddr(t *testing.T) {
	for _, p := range rightPrefixes() {
		for _, a := range risingAddrs() {
			n := numberOf(a)
			want := a.Six == p.At.Six && n.Cmp(numberOf(p.At)) >= 0 && n.Cmp(endOf(p)) < 0
			if impl.HasAddr(p, a) != want {
				t.Fatalf("HasAddr(%v, %v) is not %v", p, a, want)
			}
		}
	}
}

func TestWithinAndOverlaps(t *testing.T) {
	list := fewPrefixes()
	for _, p := range list {
		if up, _, ok := impl.Halves(p); ok {
			list = append(list, up)
		}
	}
	for _, p := range list {
		for _, q := range list {
			one := p.At.Six == q.At.Six
			within := one && numberOf(p.At).Cmp(numberOf(q.At)) >= 0 && endOf(p).Cmp(endOf(q)) <= 0
			overlaps := one && numberOf(p.At).Cmp(endOf(q)) < 0 && numberOf(q.At).Cmp(endOf(p)) < 0
			if impl.Within(p, q) != within {
				t.Fatalf("Within(%v, %v) is not %v", p, q, within)
			}
			if impl.Overlaps(p, q) != overlaps {
				t.Fatalf("Overlaps(%v, %v) is not %v", p, q, overlaps)
			}
		}
	}
}

func TestHalvesAreAll(t *testing.T) {
	zero := impl.Prefix{}
	for _, p := range rightPrefixes() {
		lower, upper, ok := impl.Halves(p)
		if sizeOf(p) == 0 {
			if ok || lower != zero || upper != zero {
				t.Fatalf("Halves(%v) = %v, %v, %v", p, lower, upper, ok)
			}
			continue
		}
		middle := new(big.Int).Add(numberOf(p.At), new(big.Int).Rsh(countOf(p), 1))
		wantLower := impl.Prefix{At: p.At, Bits: p.Bits + 1}
		wantUpper := impl.Prefix{At: addrOfNumber(p.At.Six, middle), Bits: p.Bits + 1}
		if lower != wantLower || upper != wantUpper || !ok {
			t.Fatalf("Halves(%v) = %v, %v, %v, not %v, %v", p, lower, upper, ok, wantLower, wantUpper)
		}
		if !impl.PrefixOk(lower) || !impl.PrefixOk(upper) || impl.Overlaps(lower, upper) || !impl.Within(lower, p) || !impl.Within(upper, p) {
			t.Fatalf("the halves of %v are wrong: %v, %v", p, lower, upper)
		}
		if s := impl.Collapse([]impl.Prefix{upper, lower}); !sameList(s, []impl.Prefix{p}) {
			t.Fatalf("the halves of %v are not all of it: %v", p, s)
		}
		for _, half := range []impl.Prefix{lower, upper} {
			if q, ok := impl.Above(half); q != p || !ok {
				t.Fatalf("Above(%v) = %v, %v, not %v", half, q, ok, p)
			}
		}
		if q, ok := impl.Sibling(lower); q != upper || !ok {
			t.Fatalf("Sibling(%v) = %v, %v, not %v", lower, q, ok, upper)
		}
		if q, ok := impl.Sibling(upper); q != lower || !ok {
			t.Fatalf("Sibling(%v) = %v, %v, not %v", upper, q, ok, lower)
		}
	}
	for _, p := range []impl.Prefix{{At: narrow(0)}, {At: wide(0, 0)}} {
		if q, ok := impl.Above(p); ok || q != zero {
			t.Errorf("Above(%v) = %v, %v", p, q, ok)
		}
		if q, ok := impl.Sibling(p); ok || q != zero {
			t.Errorf("Sibling(%v) = %v, %v", p, q, ok)
		}
	}
}

func TestNthAndPlaceTable(t *testing.T) {
	for _, c := range []struct {
		p    string
		n    int
		want impl.Addr
		ok   bool
	}{
		{"10.0.0.0/24", 0, narrow(0x0a000000), true},
		{"10.0.0.0/24", 255, narrow(0x0a0000ff), true},
		{"10.0.0.0/24", 256, impl.Addr{}, false},
		{"10.0.0.0/24", -1, impl.Addr{}, false},
		{"10.0.0.0/24", math.MinInt, impl.Addr{}, false},
		{"10.0.0.0/24", math.MaxInt, impl.Addr{}, false},
		{"10.0.0.5/32", 0, narrow(0x0a000005), true},
		{"10.0.0.5/32", 1, impl.Addr{}, false},
		{"0.0.0.0/0", lastNarrow, narrow(lastNarrow), true},
		{"0.0.0.0/0", lastNarrow + 1, impl.Addr{}, false},
		{"255.255.255.255/32", 0, narrow(lastNarrow), true},
		{"255.255.255.255/32", 1, impl.Addr{}, false},
		{"255.255.255.254/31", 1, narrow(lastNarrow), true},
		{"::/0", 0, wide(0, 0), true},
		{"::/0", -1, impl.Addr{}, false},
		{"::/0", math.MaxInt, wide(0, math.MaxInt), true},
		{"1::/63", math.MaxInt, wide(1<<48, math.MaxInt), true},
		{"1::/64", math.MaxInt, wide(1<<48, math.MaxInt), true},
		{"1::/65", math.MaxInt, wide(1<<48, math.MaxInt), true},
		{"1:0:0:0:8000::/65", math.MaxInt, wide(1<<48, -1), true},
		{"1::/66", math.MaxInt, impl.Addr{}, false},
		{"1::/66", 1<<62 - 1, wide(1<<48, 1<<62-1), true},
		{"1::/66", 1 << 62, impl.Addr{}, false},
		{"1:0:0:0:c000::/66", 1 << 62, impl.Addr{}, false},
		{"1::5/128", 0, wide(1<<48, 5), true},
		{"1::5/128", 1, impl.Addr{}, false},
		{"ffff:ffff:ffff:ffff:ffff:ffff:ffff:ffff/128", 0, wide(-1, -1), true},
		{"ffff:ffff:ffff:ffff:ffff:ffff:ffff:ffff/128", 1, impl.Addr{}, false},
		{"ffff:ffff:ffff:ffff::/64", math.MaxInt, wide(-1, math.MaxInt), true},
	} {
		p := prefixOfText(t, c.p)
		a, ok := impl.NthOf(p, c.n)
		if a != c.want || ok != c.ok {
			t.Errorf("NthOf(%s, %d) = %v, %v, not %v, %v", c.p, c.n, a, ok, c.want, c.ok)
		}
		if !c.ok {
			continue
		}
		if n, ok := impl.PlaceOf(p, c.want); n != c.n || !ok {
			t.Errorf("PlaceOf(%s, %v) = %d, %v, not %d", c.p, c.want, n, ok, c.n)
		}
	}
}

// A place of 2^63 - 1 is told, one of one more is not; whatever the bits.
func TestPlaceOfEdge(t *testing.T) {
	for _, bits := range []int{0, 1, 32, 62, 63, 64} {
		for _, around := range []impl.Addr{wide(0, 0), wide(0x0102030405060708, 0), wide(-1, -1)} {
			p := prefixAt(around, bits)
			first := numberOf(p.At)
			for _, step := range []int64{0, 1, math.MaxInt64 - 1, math.MaxInt64} {
				a := addrOfNumber(true, new(big.Int).Add(first, big.NewInt(step)))
				if n, ok := impl.PlaceOf(p, a); n != int(step) || !ok {
					t.Errorf("PlaceOf(%v, %v) = %d, %v, not %d", p, a, n, ok, step)
				}
				if b, ok := impl.NthOf(p, int(step)); b != a || !ok {
					t.Errorf("NthOf(%v, %d) = %v, %v, not %v", p, step, b, ok, a)
				}
			}
			past := new(big.Int).Lsh(big.NewInt(1), 63)
			for _, far := range []*big.Int{past, new(big.Int).Add(past, big.NewInt(1)), new(big.Int).Sub(countOf(p), big.NewInt(1))} {
				a := addrOfNumber(true, new(big.Int).Add(first, far))
				if n, ok := impl.PlaceOf(p, a); n != 0 || ok || !impl.HasAddr(p, a) {
					t.Errorf("PlaceOf(%v, %v) = %d, %v", p, a, n, ok)
				}
			}
		}
	}
	last := prefixOfText(t, "::8000:0:0:0/65")
	if n, ok := impl.PlaceOf(last, wide(0, -1)); n != math.MaxInt || !ok {
		t.Errorf("PlaceOf the last of %v = %d, %v", last, n, ok)
	}
}

func TestNthAndPlaceComeBack(t *testing.T) {
	for _, p := range rightPrefixes() {
		for _, n := range []int{0, 1, 2, 3, 254, 255, 256, 1 << 31, lastNarrow, lastNarrow + 1, 1<<62 - 1, 1 << 62, math.MaxInt} {
			there := big.NewInt(int64(n)).Cmp(countOf(p)) < 0
			want := impl.Addr{}
			if there {
				want = addrOfNumber(p.At.Six, new(big.Int).Add(numberOf(p.At), big.NewInt(int64(n))))
			}
			a, ok := impl.NthOf(p, n)
			if a != want || ok != there {
				t.Fatalf("NthOf(%v, %d) = %v, %v, not %v, %v", p, n, a, ok, want, there)
			}
			if !ok {
				continue
			}
			if m, ok := impl.PlaceOf(p, a); m != n || !ok {
				t.Fatalf("PlaceOf(%v, %v) = %d, %v, not %d", p, a, m, ok, n)
			}
		}
		for _, a := range risingAddrs() {
			gap := new(big.Int).Sub(numberOf(a), numberOf(p.At))
			there := a.Six == p.At.Six && gap.Sign() >= 0 && gap.Cmp(countOf(p)) < 0 && gap.IsInt64()
			want := 0
			if there {
				want = int(gap.Int64())
			}
			if n, ok := impl.PlaceOf(p, a); n != want || ok != there {
				t.Fatalf("PlaceOf(%v, %v) = %d, %v, not %d, %v", p, a, n, ok, want, there)
			}
		}
	}
}

func TestPrefixesComeBackOfTheirTexts(t *testing.T) {
	for _, p := range rightPrefixes() {
		s := impl.PrefixText(p)
		if want := textsOf([]impl.Prefix{p}); s != want {
			t.Fatalf("PrefixText(%v) = %q, not %q", p, s, want)
		}
		if q, ok := impl.ParsePrefix(s); q != p || !ok {
			t.Fatalf("ParsePrefix(%q) = %v, %v, not %v", s, q, ok, p)
		}
	}
	for s, p := range map[string]impl.Prefix{
		"0.0.0.0/0":          {},
		"10.0.0.0/8":         {At: narrow(0x0a000000), Bits: 8},
		"255.255.255.255/32": {At: narrow(lastNarrow), Bits: 32},
		"::/0":               {At: wide(0, 0)},
		"::/128":             {At: wide(0, 0), Bits: 128},
		"2001:db8::/32":      {At: wide(0x20010db800000000, 0), Bits: 32},
		"::1/128":            {At: wide(0, 1), Bits: 128},
	} {
		if q, ok := impl.ParsePrefix(s); q != p || !ok || impl.PrefixText(p) != s {
			t.Errorf("ParsePrefix(%q) = %v, %v; PrefixText is %q", s, q, ok, impl.PrefixText(p))
		}
	}
}

func TestParsePrefixNone(t *testing.T) {
	for _, s := range []string{
		"", "/", "//", "8", "/8", "0/0", "/0",
		"10.0.0.0", "10.0.0.0/", "10.0.0.0//8", "10.0.0.0/8/", "10.0.0.0/8/8", "/10.0.0.0/8", "10.0.0.0/8/10.0.0.0",
		"10.0.0.0/08", "10.0.0.0/008", "0.0.0.0/00", "::/00", "::/064", "10.0.0.0/+8", "10.0.0.0/-8", "0.0.0.0/-0", "0.0.0.0/+0", "0.0.0.0/-1",
		"10.0.0.0/33", "10.0.0.0/64", "10.0.0.0/128", "0.0.0.0/33", "::/129", "::/1000", "::/18446744073709551616", "0.0.0.0/18446744073709551616", "::/9223372036854775808", "10.0.0.0/4294967304", "0.0.0.0/340282366920938463463374607431768211456",
		"10.0.0.1/24", "10.0.0.0/6", "10.0.0.0/0", "0.0.0.1/0", "255.255.255.255/31", "::1/127", "::1/0", "1::/0", "::8000:0:0:0/64", "0:0:0:1::/63", "ffff::/15",
		"010.0.0.0/8", "10.0.0/8", "10/8", "10.0.0.0.0/8", "256.0.0.0/8", "FE80::/16", "0:0:0:0:0:0:0:0/0", "::0/0", "0::/0", "::ffff:1.2.3.4/128", "2001:0db8::/32",
		" 10.0.0.0/8", "10.0.0.0/8 ", "10.0.0.0 /8", "10.0.0.0/ 8", "10.0.0.0/8\n", "10.0.0.0\\8", "10.0.0.0/0x8", "10.0.0.0/8a", "10.0.0.0/a", "10.0.0.0/1_6", "10.0.0.0/8.0", "10.0.0.0/1e1", "10.0.0.0/255.0.0.0", "::/f",
		"10.0.0.0/\uff18", "10.0.0.0\uff0f8", "10.0.0.0/8\xff", "10.0.0.0/\xff", "\xff/8", "10.0.0.0/8\x00",
	} {
		if p, ok := impl.ParsePrefix(s); ok || p != (impl.Prefix{}) {
			t.Errorf("ParsePrefix(%q) = %v, %v, not the zero one and false", s, p, ok)
		}
	}
}

// Whatever stands behind the address, it is taken just when it is the number's own text.
func TestParsePrefixBits(t *testing.T) {
	for _, a := range []string{"0.0.0.0", "::"} {
		most := 32
		if a == "::" {
			most = 128
		}
		for n := -300; n <= 300; n++ {
			for _, form := range []string{"", "0", "00", "+", "-", " "} {
				s := a + "/" + form + strconv.Itoa(n)
				p, ok := impl.ParsePrefix(s)
				want := form == "" && 0 <= n && n <= most
				if ok != want || ok && p.Bits != n || !ok && p != (impl.Prefix{}) {
					t.Fatalf("ParsePrefix(%q) = %v, %v", s, p, ok)
				}
			}
		}
	}
}

func TestCmpPrefix(t *testing.T) {
	list := append(append(rightPrefixes(), wrongPrefixes()...), impl.Prefix{At: narrow(1), Bits: math.MinInt}, impl.Prefix{At: narrow(1), Bits: math.MaxInt})
	sign := func(n int, m int) int {
		if n < m {
			return -1
		} else if n > m {
			return 1
		}
		return 0
	}
	number := func(a impl.Addr) *big.Int {
		if !impl.AddrOk(a) {
			return new(big.Int)
		}
		return numberOf(a)
	}
	for _, p := range list {
		for _, q := range list {
			want := sign(p.Bits, q.Bits)
			if c := number(p.At).Cmp(number(q.At)); c != 0 {
				want = c
			}
			if p.At.Six != q.At.Six {
				want = sign(widthOf(p.At.Six), widthOf(q.At.Six))
			}
			if got := impl.CmpPrefix(p, q); got != want {
				t.Fatalf("CmpPrefix(%v, %v) = %d, not %d", p, q, got, want)
			}
		}
	}
}

func TestCollapseTable(t *testing.T) {
	for _, c := range []struct{ list, want string }{
		{"", ""},
		{"10.0.0.0/8", "10.0.0.0/8"},
		{"0.0.0.0/0", "0.0.0.0/0"},
		{"::/0", "::/0"},
		{"10.0.0.0/8 10.0.0.0/8", "10.0.0.0/8"},
		{"10.0.0.0/8 10.0.0.0/8 10.0.0.0/8", "10.0.0.0/8"},
		{"10.1.2.0/24 10.0.0.0/8 10.255.255.255/32", "10.0.0.0/8"},
		{"10.0.0.0/32 10.0.0.0/31 10.0.0.0/30", "10.0.0.0/30"},
		{"10.0.0.0/9 10.128.0.0/9", "10.0.0.0/8"},
		{"10.128.0.0/9 10.0.0.0/9", "10.0.0.0/8"},
		// Neighbours that are no halves of one, and halves of different sizes, stay.
		{"10.128.0.0/9 11.0.0.0/9", "10.128.0.0/9 11.0.0.0/9"},
		{"10.0.0.1/32 10.0.0.2/32", "10.0.0.1/32 10.0.0.2/32"},
		{"10.0.0.0/9 10.128.0.0/10", "10.0.0.0/9 10.128.0.0/10"},
		{"10.0.0.0/10 10.128.0.0/9", "10.0.0.0/10 10.128.0.0/9"},
		// Siblings that join over several steps, from either side.
		{"0.0.0.0/32 0.0.0.1/32 0.0.0.2/31 0.0.0.4/30 0.0.0.8/29", "0.0.0.0/28"},
		{"0.0.0.0/29 0.0.0.8/30 0.0.0.12/31 0.0.0.14/32 0.0.0.15/32", "0.0.0.0/28"},
		{"0.0.0.15/32 0.0.0.14/32 0.0.0.12/31 0.0.0.8/30 0.0.0.0/29", "0.0.0.0/28"},
		{"128.0.0.0/1 0.0.0.0/1", "0.0.0.0/0"},
		{"8000::/1 ::/1", "::/0"},
		{"::/65 ::8000:0:0:0/65 0:0:0:1::/64", "::/63"},
		{"::/64 0:0:0:1::/65 0:0:0:1:8000::/65", "::/63"},
		{"0.0.0.0/0 10.0.0.0/8 255.255.255.255/32", "0.0.0.0/0"},
		// Both widths in one list: what is alike but for the width is not the same, nor a sibling.
		{"::/0 0.0.0.0/0", "0.0.0.0/0 ::/0"},
		{"::/128 0.0.0.0/32", "0.0.0.0/32 ::/128"},
		{"::1/128 0.0.0.0/32", "0.0.0.0/32 ::1/128"},
		{"::1/128 255.255.255.255/32 ::/128 255.255.255.254/32", "255.255.255.254/31 ::/127"},
		{"::/32 0.0.0.0/32 ::/0 10.0.0.0/8", "0.0.0.0/32 10.0.0.0/8 ::/0"},
		// The order knows no sign.
		{"ffff::/16 7fff::/16 8000::/16", "7fff::/16 8000::/16 ffff::/16"},
		{"::8000:0:0:1/128 ::7fff:ffff:ffff:ffff/128", "::7fff:ffff:ffff:ffff/128 ::8000:0:0:1/128"},
	} {
		if got := textsOf(impl.Collapse(prefixesOfTexts(t, c.list))); got != c.want {
			t.Errorf("Collapse(%s) = %s, not %s", c.list, got, c.want)
		}
	}
}

func TestWithoutTable(t *testing.T) {
	for _, c := range []struct{ p, list, want string }{
		{"10.0.0.0/29", "", "10.0.0.0/29"},
		{"0.0.0.0/0", "", "0.0.0.0/0"},
		{"::/0", "", "::/0"},
		{"10.0.0.0/29", "10.0.0.0/29", ""},
		{"10.0.0.0/29", "10.0.0.0/8", ""},
		{"10.0.0.0/29", "0.0.0.0/0", ""},
		{"10.0.0.0/29", "::/0", "10.0.0.0/29"},
		{"::/0", "0.0.0.0/0", "::/0"},
		{"10.0.0.7/32", "10.0.0.7/32", ""},
		{"10.0.0.7/32", "10.0.0.0/24", ""},
		{"10.0.0.7/32", "10.0.0.6/32", "10.0.0.7/32"},
		{"10.0.0.0/29", "10.0.0.8/29 9.255.255.255/32", "10.0.0.0/29"},
		{"10.0.0.0/29", "10.0.0.0/30 10.0.0.4/30", ""},
		{"10.0.0.0/29", "10.0.0.4/30 10.0.0.0/31 10.0.0.3/32 10.0.0.2/32", ""},
		{"10.0.0.0/29", "10.0.0.4/30", "10.0.0.0/30"},
		{"10.0.0.0/29", "10.0.0.0/30", "10.0.0.4/30"},
		{"10.0.0.0/29", "10.0.0.0/32", "10.0.0.1/32 10.0.0.2/31 10.0.0.4/30"},
		{"10.0.0.0/29", "10.0.0.7/32", "10.0.0.0/30 10.0.0.4/31 10.0.0.6/32"},
		{"10.0.0.0/29", "10.0.0.7/32 10.0.0.7/32 ::/0 10.0.0.6/31", "10.0.0.0/30 10.0.0.4/31"},
		{"10.0.0.0/29", "10.0.0.5/32 10.0.0.1/32 10.0.0.1/32 10.0.0.4/31", "10.0.0.0/32 10.0.0.2/31 10.0.0.6/31"},
		{"0.0.0.0/0", "128.0.0.0/1", "0.0.0.0/1"},
		{"0.0.0.0/0", "0.0.0.0/1", "128.0.0.0/1"},
		{"::/62", "0:0:0:1::/64", "::/64 0:0:0:2::/63"},
		{"::/62", "0:0:0:1::/65", "::/64 ::1:8000:0:0:0/65 0:0:0:2::/63"},
		{"::/63", "::8000:0:0:0/65", "::/65 0:0:0:1::/64"},
		{"ffff::/16", "ffff::/17 8000::/1", ""},
	} {
		if got := textsOf(impl.Without(prefixOfText(t, c.p), prefixesOfTexts(t, c.list))); got != c.want {
			t.Errorf("Without(%s, %s) = %s, not %s", c.p, c.list, got, c.want)
		}
	}
}

// cellDepth makes rooms of 2^cellDepth cells, small enough to try every list of prefixes in them.
const cellDepth = 3

// room is a prefix that is looked at as a few cells, each of them a prefix too; sets of cells are bits of a number.
type room struct {
	base impl.Addr
	cell int
}

func rooms() []room {
	return []room{
		{narrow(0), 0}, {narrow(0x0a0000f8), 0}, {narrow(lastNarrow - 7), 0}, {narrow(0), 29}, {narrow(0x50000000), 25},
		{wide(0, 0), 0}, {wide(-1, -8), 0}, {wide(1, 0), 61}, {wide(2, 0), 62}, {wide(4, 0), 63}, {wide(8, 0), 64}, {wide(0, 0), 125}, {wide(math.MinInt, 0), 100},
	}
}

// part is the prefix of the room that has 2^depth cells from cell first on.
func (r room) part(first int, depth int) impl.Prefix {
	step := new(big.Int).Lsh(big.NewInt(int64(first)), uint(r.cell))
	at := addrOfNumber(r.base.Six, step.Add(step, numberOf(r.base)))
	return impl.Prefix{At: at, Bits: widthOf(r.base.Six) - r.cell - depth}
}

// parts are all prefixes of the room, and for each the set of its cells.
func (r room) parts() ([]impl.Prefix, []int) {
	list, sets := []impl.Prefix{}, []int{}
	for depth := range cellDepth + 1 {
		for first := 0; first < 1<<cellDepth; first += 1 << depth {
			list = append(list, r.part(first, depth))
			sets = append(sets, (1<<(1<<depth)-1)<<first)
		}
	}
	return list, sets
}

// fewest has the fewest prefixes of the set, rising: from each cell on the greatest one that fits.
func (r room) fewest(set int) []impl.Prefix {
	list := []impl.Prefix{}
	for first := 0; first < 1<<cellDepth; {
		depth := cellDepth
		for depth > 0 && (first%(1<<depth) != 0 || set>>first&(1<<(1<<depth)-1) != 1<<(1<<depth)-1) {
			depth--
		}
		if set>>first&1 == 1 {
			list = append(list, r.part(first, depth))
		}
		first += 1 << depth
	}
	return list
}

func pickOf(list []impl.Prefix, sets []int, mask int) ([]impl.Prefix, int) {
	picked, set := []impl.Prefix{}, 0
	for i, p := range list {
		if mask>>i&1 == 1 {
			picked = append(picked, p)
			set |= sets[i]
		}
	}
	return picked, set
}

func TestFewestIsFewest(t *testing.T) {
	r := room{narrow(0), 0}
	list, sets := r.parts()
	least := make([]int, 1<<(1<<cellDepth))
	for i := range least {
		least[i] = math.MaxInt
	}
	for mask := range 1 << len(list) {
		picked, set := pickOf(list, sets, mask)
		least[set] = min(least[set], len(picked))
	}
	for set, n := range least {
		if got := len(r.fewest(set)); got != n {
			t.Errorf("set %b has %d, but %d will do", set, got, n)
		}
	}
}

func TestCollapseEveryList(t *testing.T) {
	for i, r := range rooms() {
		list, sets := r.parts()
		step := 1
		if i%5 != 0 {
			step = 7
		}
		for mask := 0; mask < 1<<len(list); mask += step {
			picked, set := pickOf(list, sets, mask)
			if mask%2 == 1 {
				slices.Reverse(picked)
			}
			if got, want := impl.Collapse(picked), r.fewest(set); !sameList(got, want) {
				t.Fatalf("Collapse(%s) = %s, not %s", textsOf(picked), textsOf(got), textsOf(want))
			}
		}
	}
}

func TestWithoutEveryList(t *testing.T) {
	for i, r := range rooms() {
		list, sets := r.parts()
		for j, p := range list {
			for mask := i + j; mask < 1<<len(list); mask += 11 + i {
				picked, set := pickOf(list, sets, mask)
				if mask%2 == 1 {
					slices.Reverse(picked)
				}
				if got, want := impl.Without(p, picked), r.fewest(sets[j]&^set); !sameList(got, want) {
					t.Fatalf("Without(%v, %s) = %s, not %s", p, textsOf(picked), textsOf(got), textsOf(want))
				}
			}
		}
	}
}

// Rooms of both widths beside each other, in lists that are mixed.
func TestBothWidthsInOneList(t *testing.T) {
	chance := rand.New(rand.NewSource(2))
	rs := rooms()
	for range 2000 {
		a, b := rs[chance.Intn(5)], rs[5+chance.Intn(len(rs)-5)]
		list, sets := a.parts()
		wides, wideSets := b.parts()
		first, set := pickOf(list, sets, chance.Intn(1<<len(list)))
		second, wideSet := pickOf(wides, wideSets, chance.Intn(1<<len(wides)))
		mixed := append(first, second...)
		chance.Shuffle(len(mixed), func(i, j int) { mixed[i], mixed[j] = mixed[j], mixed[i] })
		if got, want := impl.Collapse(mixed), append(a.fewest(set), b.fewest(wideSet)...); !sameList(got, want) {
			t.Fatalf("Collapse(%s) = %s, not %s", textsOf(mixed), textsOf(got), textsOf(want))
		}
		all := len(list) - 1
		if got, want := impl.Without(list[all], mixed), a.fewest(sets[all]&^set); !sameList(got, want) {
			t.Fatalf("Without(%v, %s) = %s, not %s", list[all], textsOf(mixed), textsOf(got), textsOf(want))
		}
		if got, want := impl.Without(wides[all], mixed), b.fewest(wideSets[all]&^wideSet); !sameList(got, want) {
			t.Fatalf("Without(%v, %s) = %s, not %s", wides[all], textsOf(mixed), textsOf(got), textsOf(want))
		}
	}
}

// spread has count single addresses of a width, far from each other or near, and none twice.
func spread(chance *rand.Rand, six bool, count int) []impl.Prefix {
	list := []impl.Prefix{}
	for len(list) < count {
		n := new(big.Int).Rand(chance, lastNumber(six))
		if chance.Intn(2) == 0 {
			n.SetInt64(int64(chance.Intn(4 * count)))
		}
		p := impl.Prefix{At: addrOfNumber(six, n), Bits: widthOf(six)}
		if !slices.Contains(list, p) {
			list = append(list, p)
		}
	}
	return list
}

// checkRow tells whether a row rises, overlaps nowhere, and has no two halves of one; so it is the fewest.
func checkRow(t *testing.T, list []impl.Prefix) {
	t.Helper()
	for i, p := range list {
		if prefixAt(p.At, p.Bits) != p {
			t.Fatal("not right:", p)
		}
		if i == 0 || list[i-1].At.Six != p.At.Six {
			if i > 0 && list[i-1].At.Six {
				t.Fatalf("%v behind %v", p, list[i-1])
			}
			continue
		}
		ahead := list[i-1]
		if endOf(ahead).Cmp(numberOf(p.At)) > 0 {
			t.Fatalf("%v is not behind %v", p, ahead)
		}
		if ahead.Bits == p.Bits && p.Bits > 0 && prefixAt(ahead.At, p.Bits-1) == prefixAt(p.At, p.Bits-1) {
			t.Fatalf("%v and %v are halves of one", ahead, p)
		}
	}
}

func sumOf(list []impl.Prefix) *big.Int {
	sum := new(big.Int)
	for _, p := range list {
		sum.Add(sum, countOf(p))
	}
	return sum
}

func TestListsOf300(t *testing.T) {
	chance := rand.New(rand.NewSource(1))
	for _, six := range []bool{false, true} {
		list := spread(chance, six, mostPrefixes+1)
		full := list[:mostPrefixes]
		all := impl.Prefix{At: impl.Addr{Six: six}}
		joined := impl.Collapse(full)
		checkRow(t, joined)
		if sumOf(joined).Cmp(big.NewInt(mostPrefixes)) != 0 {
			t.Errorf("%d collapsed have %v addresses", mostPrefixes, sumOf(joined))
		}
		left := impl.Without(all, full)
		checkRow(t, left)
		if sumOf(left).Cmp(new(big.Int).Sub(countOf(all), big.NewInt(mostPrefixes))) != 0 {
			t.Errorf("of %v without %d are left %v addresses", all, mostPrefixes, sumOf(left))
		}
		for _, p := range full {
			for _, q := range left {
				if impl.Overlaps(p, q) {
					t.Fatalf("%v is left, but %v was taken", q, p)
				}
			}
			if !slices.ContainsFunc(joined, func(q impl.Prefix) bool { return impl.Within(p, q) }) {
				t.Fatalf("collapsed, %v is lost", p)
			}
		}
		if got := impl.Collapse(list); len(got) != 0 {
			t.Errorf("Collapse of %d has %d", len(list), len(got))
		}
		if got := impl.Without(all, list); len(got) != 0 {
			t.Errorf("Without of %d has %d", len(list), len(got))
		}
	}
	same := slices.Repeat([]impl.Prefix{{At: narrow(0x0a000000), Bits: 8}}, mostPrefixes+1)
	if got := impl.Collapse(same[:mostPrefixes]); !sameList(got, same[:1]) {
		t.Errorf("Collapse of %d that are one = %v", mostPrefixes, got)
	}
	if got := impl.Without(same[0], same[:mostPrefixes]); len(got) != 0 {
		t.Errorf("Without of %d that are one = %v", mostPrefixes, got)
	}
	if got := impl.Collapse(same); len(got) != 0 {
		t.Errorf("Collapse of %d that are one = %v", mostPrefixes+1, got)
	}
	if got := impl.Without(prefixOfText(t, "11.0.0.0/8"), same); len(got) != 0 {
		t.Errorf("Without of %d that are one = %v", mostPrefixes+1, got)
	}
}

// What is left and what was taken are all of a prefix, and have none together.
func TestLeftAndTakenAreAll(t *testing.T) {
	chance := rand.New(rand.NewSource(3))
	count := 0
	for range 400 {
		six := chance.Intn(2) == 0
		base := addrOfNumber(six, new(big.Int).Rand(chance, lastNumber(six)))
		p := prefixAt(base, chance.Intn(widthOf(six)+1))
		taken := []impl.Prefix{}
		for range chance.Intn(8) {
			n := new(big.Int).Rand(chance, countOf(p))
			a := addrOfNumber(six, n.Add(n, numberOf(p.At)))
			taken = append(taken, prefixAt(a, p.Bits+chance.Intn(sizeOf(p)+1)))
		}
		left := impl.Without(p, taken)
		checkRow(t, left)
		for _, q := range left {
			for _, r := range taken {
				if impl.Overlaps(q, r) {
					t.Fatalf("%v is left of %v, but %v was taken", q, p, r)
				}
			}
		}
		if got := new(big.Int).Add(sumOf(left), sumOf(impl.Collapse(taken))); got.Cmp(countOf(p)) != 0 {
			t.Fatalf("of %v are %v left and taken, of %v", p, got, countOf(p))
		}
		both := append(left, taken...)
		if len(both) > mostPrefixes {
			continue
		}
		count++
		if got := impl.Collapse(both); !sameList(got, []impl.Prefix{p}) {
			t.Fatalf("of %v what is left and taken is %s", p, textsOf(got))
		}
		again := impl.Without(p, left)
		if want := impl.Collapse(taken); !sameList(again, want) {
			t.Fatalf("%v without what is left is %s, not %s", p, textsOf(again), textsOf(want))
		}
	}
	if count < 100 {
		t.Error("too few lists were short enough:", count)
	}
}

// Nothing is written into a list or behind it, and no answer shares memory with it or with another answer.
func TestPrefixListsStayApart(t *testing.T) {
	room := prefixesOfTexts(t, "10.0.0.2/31 10.0.0.1/32 10.0.0.0/32 ::/0 10.9.0.0/16 10.8.0.0/16")
	kept := slices.Clone(room)
	list := room[:4]
	p := prefixOfText(t, "10.0.0.0/24")
	joined, left := impl.Collapse(list), impl.Without(p, list)
	if !sameList(room, kept) {
		t.Fatal("the list was changed:", room)
	}
	wantJoined, wantLeft := slices.Clone(joined), slices.Clone(left)
	again, more := impl.Collapse(list), impl.Without(p, list)
	for i := range room {
		room[i] = impl.Prefix{}
	}
	clear(again[:cap(again)])
	clear(more[:cap(more)])
	if !sameList(joined, wantJoined) || !sameList(left, wantLeft) {
		t.Error("an answer shares memory with the list, or with another answer")
	}
	alone := []impl.Prefix{p}
	whole := impl.Collapse(alone)
	alone[0] = impl.Prefix{}
	if whole[0] != p {
		t.Error("an answer of one shares memory with the list")
	}
}
