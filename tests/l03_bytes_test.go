package tests

import (
	"bytes"
	"encoding/binary"
	"hash/crc32"
	"math"
	"math/rand"
	"slices"
	"strings"
	"testing"

	"loop.example/g00113/impl"
)

// What follows up to the first test are the same answers by the library's means, which share nothing with the program's.

func numBytes(n int) []byte {
	return binary.AppendUvarint(nil, uint64(n))
}

func numAt(b []byte, at int) (int, int, bool) {
	if at < 0 || at > len(b) {
		return 0, 0, false
	}
	n, count := binary.Uvarint(b[at:])
	if count <= 0 || len(numBytes(int(n))) != count {
		return 0, 0, false
	}
	return int(n), at + count, true
}

func textAt(b []byte, at int) (string, int, bool) {
	n, next, ok := numAt(b, at)
	if !ok || n < 0 || n > len(b[next:]) {
		return "", 0, false
	}
	return string(b[next:][:n]), next + n, true
}

func addrAt(b []byte, at int) (impl.Addr, int, bool) {
	if at < 0 || at > len(b) {
		return impl.Addr{}, 0, false
	}
	switch rest := b[at:]; {
	case len(rest) >= 5 && rest[0] == 4:
		return narrow(int(binary.BigEndian.Uint32(rest[1:]))), at + 5, true
	case len(rest) >= 17 && rest[0] == 6:
		return wide(int(binary.BigEndian.Uint64(rest[1:])), int(binary.BigEndian.Uint64(rest[9:]))), at + 17, true
	}
	return impl.Addr{}, 0, false
}

// withSum has the right sum behind b, whatever b is.
func withSum(b ...byte) []byte {
	return binary.LittleEndian.AppendUint32(slices.Clone(b), crc32.ChecksumIEEE(b))
}

func frameOf(b []byte) []byte {
	return withSum(append(numBytes(len(b)), b...)...)
}

// numIsCut tells whether b, from at on, has nothing but bytes that tell of more, and fewer of them than a number may have.
func numIsCut(b []byte, at int) bool {
	for _, c := range b[at:] {
		if c < 128 {
			return false
		}
	}
	return len(b)-at < 10
}

func frameAt(b []byte, at int) ([]byte, int, int) {
	if at == len(b) {
		return nil, at, impl.FrameEnd
	}
	if at < 0 || at > len(b) {
		return nil, at, impl.FrameBad
	}
	if numIsCut(b, at) {
		return nil, at, impl.FrameTorn
	}
	n, from, ok := numAt(b, at)
	if !ok || n < 0 || n > 20000 {
		return nil, at, impl.FrameBad
	}
	if len(b)-from < n+4 {
		return nil, at, impl.FrameTorn
	}
	if binary.LittleEndian.Uint32(b[from+n:]) != crc32.ChecksumIEEE(b[at:from+n]) {
		return nil, at, impl.FrameBad
	}
	return b[from : from+n], from + n + 4, impl.FrameGood
}

// checkReads holds all that reads, at each place around b, against the library's means.
func checkReads(t *testing.T, b []byte) {
	t.Helper()
	places := []int{math.MinInt, math.MinInt + len(b), -2, math.MaxInt - len(b), math.MaxInt}
	for at := -1; at <= len(b)+1; at++ {
		places = append(places, at)
	}
	for _, at := range places {
		checkReadsAt(t, b, at)
	}
}

func checkReadsAt(t *testing.T, b []byte, at int) {
	t.Helper()
	n, next, ok := impl.GetNum(b, at)
	if m, place, good := numAt(b, at); n != m || next != place || ok != good {
		t.Fatalf("GetNum(%x, %d) = %d, %d, %v, not %d, %d, %v", b, at, n, next, ok, m, place, good)
	}
	s, next, ok := impl.GetText(b, at)
	if m, place, good := textAt(b, at); s != m || next != place || ok != good {
		t.Fatalf("GetText(%x, %d) = %q, %d, %v, not %q, %d, %v", b, at, s, next, ok, m, place, good)
	}
	a, next, ok := impl.GetAddr(b, at)
	if m, place, good := addrAt(b, at); a != m || next != place || ok != good {
		t.Fatalf("GetAddr(%x, %d) = %v, %d, %v, not %v, %d, %v", b, at, a, next, ok, m, place, good)
	}
	checkUnframe(t, b, at)
}

func checkUnframe(t *testing.T, b []byte, at int) int {
	t.Helper()
	x, next, code := impl.Unframe(b, at)
	if m, place, want := frameAt(b, at); !bytes.Equal(x, m) || next != place || code != want {
		t.Fatalf("Unframe(%x, %d) = %x, %d, %d, not %x, %d, %d", b, at, x, next, code, m, place, want)
	}
	return code
}

// edgeNums are each power of 2, and so of 2^7, and what is near it, with and without a sign, with how many bytes each has.
func edgeNums() map[int]int {
	list := map[int]int{0: 1, 1: 1, -1: 10}
	for bit := range 64 {
		n := int(uint64(1) << bit)
		list[n] = bit/7 + 1
		list[n-1] = max(bit-1, 0)/7 + 1
		list[-n] = 10
		if bit > 0 {
			list[n+1] = bit/7 + 1
		}
	}
	return list
}

func TestPutNumTable(t *testing.T) {
	for _, c := range []struct {
		n    int
		want string
	}{
		{0, "\x00"},
		{1, "\x01"},
		{127, "\x7f"},
		{128, "\x80\x01"},
		{129, "\x81\x01"},
		{255, "\xff\x01"},
		{256, "\x80\x02"},
		{300, "\xac\x02"},
		{16383, "\xff\x7f"},
		{16384, "\x80\x80\x01"},
		{20000, "\xa0\x9c\x01"},
		{1<<21 - 1, "\xff\xff\x7f"},
		{1 << 21, "\x80\x80\x80\x01"},
		{1<<56 - 1, "\xff\xff\xff\xff\xff\xff\xff\x7f"},
		{1 << 56, "\x80\x80\x80\x80\x80\x80\x80\x80\x01"},
		{math.MaxInt, "\xff\xff\xff\xff\xff\xff\xff\xff\x7f"},
		{math.MinInt, "\x80\x80\x80\x80\x80\x80\x80\x80\x80\x01"},
		{math.MinInt + 1, "\x81\x80\x80\x80\x80\x80\x80\x80\x80\x01"},
		{-128, "\x80\xff\xff\xff\xff\xff\xff\xff\xff\x01"},
		{-2, "\xfe\xff\xff\xff\xff\xff\xff\xff\xff\x01"},
		{-1, "\xff\xff\xff\xff\xff\xff\xff\xff\xff\x01"},
	} {
		if got := impl.PutNum(c.n); string(got) != c.want {
			t.Errorf("PutNum(%d) = %x, not %x", c.n, got, c.want)
		}
		if n, next, ok := impl.GetNum([]byte(c.want), 0); n != c.n || next != len(c.want) || !ok {
			t.Errorf("GetNum(%x) = %d, %d, %v, not %d", c.want, n, next, ok, c.n)
		}
	}
}

func TestNumsComeBack(t *testing.T) {
	list := []int{}
	for n, count := range edgeNums() {
		if got := impl.PutNum(n); len(got) != count {
			t.Errorf("PutNum(%d) = %x, not of %d bytes", n, got, count)
		}
		list = append(list, n)
	}
	chance := rand.New(rand.NewSource(3))
	for range 5000 {
		list = append(list, int(chance.Uint64()>>chance.Intn(64)))
	}
	for _, n := range list {
		b := impl.PutNum(n)
		if !bytes.Equal(b, numBytes(n)) {
			t.Fatalf("PutNum(%d) = %x", n, b)
		}
		checkReads(t, b)
		for cut := range b {
			checkReads(t, b[:cut])
			if _, _, ok := impl.GetNum(b[:cut], 0); ok {
				t.Fatalf("%d, cut to %d bytes, is read", n, cut)
			}
		}
	}
}

func TestNumsBehindOneAnother(t *testing.T) {
	list := []int{0, -1, 127, 128, 0, 0, math.MaxInt, 1, math.MinInt, 16384, 300, 20000, -20000, 5}
	all := []byte{200}
	for _, n := range list {
		all = append(all, impl.PutNum(n)...)
	}
	at := 1
	for _, want := range list {
		n, next, ok := impl.GetNum(all, at)
		if n != want || next != at+len(numBytes(want)) || !ok {
			t.Fatalf("GetNum at %d = %d, %d, %v, not %d", at, n, next, ok, want)
		}
		at = next
	}
	if n, next, ok := impl.GetNum(all, at); n != 0 || next != 0 || ok || at != len(all) {
		t.Errorf("GetNum at the end, %d of %d = %d, %d, %v", at, len(all), n, next, ok)
	}
}

func TestGetNumNone(t *testing.T) {
	full := strings.Repeat("\xff", 9)
	for _, s := range []string{
		"", "\x80", "\xff", "\x80\x80", full, full + "\xff", full + "\x80", full + "\x81",
		"\x80\x00", "\xff\x00", "\x81\x80\x00", "\xff\xff\xff\x00", "\x80\x80\x80\x00", full[:8] + "\x80\x00", full + "\x00",
		full + "\x02", full + "\x03", full + "\x7f", full + "\x80\x00", full + "\x80\x01", full + "\x81\x00", full + full + "\x01",
	} {
		if n, next, ok := impl.GetNum([]byte(s), 0); n != 0 || next != 0 || ok {
			t.Errorf("GetNum(%x, 0) = %d, %d, %v", s, n, next, ok)
		}
		if n, next, ok := impl.GetNum([]byte("\x05"+s), 1); n != 0 || next != 0 || ok {
			t.Errorf("GetNum(05%x, 1) = %d, %d, %v", s, n, next, ok)
		}
	}
	for _, at := range []int{-1, -2, 3, 4, math.MinInt, math.MaxInt} {
		if n, next, ok := impl.GetNum([]byte{1, 2}, at); n != 0 || next != 0 || ok {
			t.Errorf("GetNum at %d = %d, %d, %v", at, n, next, ok)
		}
	}
}

// Each length that a number may have or not, with each last byte.
func TestGetNumOfEachLastByte(t *testing.T) {
	for _, fill := range []byte{128, 129, 192, 255} {
		for length := range 13 {
			b := bytes.Repeat([]byte{fill}, length)
			checkReads(t, b)
			for last := range 256 {
				checkReads(t, append(slices.Clone(b), byte(last)))
				checkReadsAt(t, append(slices.Clone(b), byte(last), 1, 2, 3, 4, 5), 0)
			}
		}
	}
}

func TestReadsOfAllShortBytes(t *testing.T) {
	checkReads(t, nil)
	checkReads(t, []byte{})
	for first := range 256 {
		checkReads(t, []byte{byte(first)})
		for second := range 256 {
			checkReads(t, []byte{byte(first), byte(second)})
		}
	}
	signs := []byte{0, 1, 2, 4, 6, 127, 128, 129, 255}
	lists := [][]byte{{}}
	for range 5 {
		longer := [][]byte{}
		for _, b := range lists {
			for _, c := range signs {
				longer = append(longer, append(slices.Clone(b), c))
			}
		}
		lists = longer
	}
	for _, b := range lists {
		checkReads(t, b)
	}
}

func TestReadsOfManyBytes(t *testing.T) {
	chance := rand.New(rand.NewSource(33))
	for range 20000 {
		b := make([]byte, chance.Intn(40))
		for i := range b {
			b[i] = byte(chance.Intn(256))
			if chance.Intn(3) == 0 {
				b[i] = byte(chance.Intn(8))
			}
		}
		if chance.Intn(2) == 0 {
			b = append(b, frameOf(b)...)
		}
		checkReads(t, b)
	}
}

func someTexts() []string {
	list := []string{"", "a", "ab", "\x00", "\x80", "\xff\xff", "parcel-post", "ä€😀", "\xc3", "a\nb\x00c", strings.Repeat("\xff", 9) + "\x01"}
	for _, count := range []int{126, 127, 128, 129, 16383, 16384, 20000, 20001, 70000} {
		list = append(list, strings.Repeat("xyz", count)[:count])
	}
	return list
}

func TestTextsComeBack(t *testing.T) {
	all, places := []byte{9}, []int{}
	for _, s := range someTexts() {
		b := impl.PutText(s)
		if want := string(numBytes(len(s))) + s; string(b) != want {
			t.Fatalf("PutText of %d bytes = %.40x, not %.40x", len(s), b, want)
		}
		if got, next, ok := impl.GetText(b, 0); got != s || next != len(b) || !ok {
			t.Fatalf("GetText of %d bytes = %d bytes, %d, %v", len(s), len(got), next, ok)
		}
		for cut := range b {
			if got, next, ok := impl.GetText(b[:cut], 0); got != "" || next != 0 || ok {
				t.Fatalf("GetText of %d bytes, cut to %d = %.40q, %d, %v", len(b), cut, got, next, ok)
			}
		}
		places = append(places, len(all))
		all = append(all, b...)
	}
	places = append(places, len(all))
	for i, s := range someTexts() {
		if got, next, ok := impl.GetText(all, places[i]); got != s || next != places[i+1] || !ok {
			t.Fatalf("GetText at %d = %d bytes, %d, %v, not %d bytes", places[i], len(got), next, ok, len(s))
		}
	}
}

func TestGetTextNone(t *testing.T) {
	lists := [][]byte{nil, {1}, {2, 'a'}, {3, 'a', 'b'}, {128}, {129, 0, 'a'}, {128, 0}, {255, 'a'}}
	for _, n := range []int{4, 5, 127, 128, 20000, math.MaxInt32, math.MaxInt - 16, math.MaxInt - 3, math.MaxInt, math.MinInt, math.MinInt + 2, -3, -2, -1} {
		lists = append(lists, append(numBytes(n), "abc"...))
	}
	lists = append(lists, append(bytes.Repeat([]byte{128}, 9), 2, 'a', 'b'), append(bytes.Repeat([]byte{128}, 10), 1, 'a', 'b'))
	for _, b := range lists {
		if s, next, ok := impl.GetText(b, 0); s != "" || next != 0 || ok {
			t.Errorf("GetText(%x, 0) = %q, %d, %v", b, s, next, ok)
		}
		if s, next, ok := impl.GetText(append([]byte{1, 'z'}, b...), 2); s != "" || next != 0 || ok {
			t.Errorf("GetText(017a%x, 2) = %q, %d, %v", b, s, next, ok)
		}
	}
	for _, at := range []int{-1, -2, 3, 4, math.MinInt, math.MaxInt} {
		if s, next, ok := impl.GetText([]byte{1, 'a', 0}, at); s != "" || next != 0 || ok {
			t.Errorf("GetText at %d = %q, %d, %v", at, s, next, ok)
		}
	}
}

func TestPutAddrTable(t *testing.T) {
	for _, c := range []struct {
		a    impl.Addr
		want string
	}{
		{narrow(0), "\x04\x00\x00\x00\x00"},
		{narrow(258), "\x04\x00\x00\x01\x02"},
		{narrow(0x0a0b0c0d), "\x04\x0a\x0b\x0c\x0d"},
		{narrow(lastNarrow), "\x04\xff\xff\xff\xff"},
		{wide(0, 0), "\x06\x00\x00\x00\x00\x00\x00\x00\x00\x00\x00\x00\x00\x00\x00\x00\x00"},
		{wide(0, 1), "\x06\x00\x00\x00\x00\x00\x00\x00\x00\x00\x00\x00\x00\x00\x00\x00\x01"},
		{wide(0x0102030405060708, 0x090a0b0c0d0e0f10), "\x06\x01\x02\x03\x04\x05\x06\x07\x08\x09\x0a\x0b\x0c\x0d\x0e\x0f\x10"},
		{wide(math.MinInt, math.MaxInt), "\x06\x80\x00\x00\x00\x00\x00\x00\x00\x7f\xff\xff\xff\xff\xff\xff\xff"},
		{wide(-1, -1), "\x06\xff\xff\xff\xff\xff\xff\xff\xff\xff\xff\xff\xff\xff\xff\xff\xff"},
	} {
		if got := impl.PutAddr(c.a); string(got) != c.want {
			t.Errorf("PutAddr(%v) = %x, not %x", c.a, got, c.want)
		}
		if a, next, ok := impl.GetAddr([]byte(c.want), 0); a != c.a || next != len(c.want) || !ok {
			t.Errorf("GetAddr(%x) = %v, %d, %v, not %v", c.want, a, next, ok, c.a)
		}
	}
	for _, a := range wrongAddrs() {
		if got := impl.PutAddr(a); len(got) != 0 {
			t.Errorf("PutAddr(%v) = %x", a, got)
		}
	}
}

func TestAddrsComeBackOfTheirBytes(t *testing.T) {
	all, places := []byte{4, 6}, []int{}
	for _, a := range manyAddrs() {
		b := impl.PutAddr(a)
		if want, next, ok := addrAt(b, 0); want != a || next != len(b) || !ok {
			t.Fatalf("PutAddr(%v) = %x", a, b)
		}
		checkReads(t, b)
		for cut := range b {
			if got, next, ok := impl.GetAddr(b[:cut], 0); got != (impl.Addr{}) || next != 0 || ok {
				t.Fatalf("GetAddr(%x, 0) = %v, %d, %v", b[:cut], got, next, ok)
			}
		}
		places = append(places, len(all))
		all = append(all, b...)
	}
	places = append(places, len(all))
	for i, a := range manyAddrs() {
		if got, next, ok := impl.GetAddr(all, places[i]); got != a || next != places[i+1] || !ok {
			t.Fatalf("GetAddr at %d = %v, %d, %v, not %v", places[i], got, next, ok, a)
		}
	}
}

func TestGetAddrNone(t *testing.T) {
	for mark := range 256 {
		b := append([]byte{byte(mark)}, bytes.Repeat([]byte{4}, 20)...)
		checkReads(t, b)
		if a, next, ok := impl.GetAddr(b, 0); mark != 4 && mark != 6 && (a != (impl.Addr{}) || next != 0 || ok) {
			t.Errorf("GetAddr(%x, 0) = %v, %d, %v", b, a, next, ok)
		}
	}
	for _, at := range []int{-1, -5, 1, 5, 6, math.MinInt, math.MaxInt} {
		if a, next, ok := impl.GetAddr([]byte{4, 4, 4, 4, 4}, at); a != (impl.Addr{}) || next != 0 || ok {
			t.Errorf("GetAddr at %d = %v, %d, %v", at, a, next, ok)
		}
	}
}

func TestSumTable(t *testing.T) {
	for _, c := range []struct {
		s    string
		want int
	}{
		{"", 0},
		{"\x00", 0xd202ef8d},
		{"\xff", 0xff000000},
		{"\x00\x00\x00\x00", 0x2144df1c},
		{"\xff\xff\xff\xff", 0xffffffff},
		{"a", 0xe8b7be43},
		{"abc", 0x352441c2},
		{"123456789", 0xcbf43926},
		{"The quick brown fox jumps over the lazy dog", 0x414fa339},
	} {
		if got := impl.Sum([]byte(c.s)); got != c.want {
			t.Errorf("Sum(%x) = %x, not %x", c.s, got, c.want)
		}
	}
	if impl.Sum(nil) != 0 {
		t.Error("Sum(nil) is not 0")
	}
}

func TestSumOfMany(t *testing.T) {
	chance := rand.New(rand.NewSource(333))
	lists := [][]byte{make([]byte, 20000), make([]byte, 400001)}
	for c := range 256 {
		lists = append(lists, []byte{byte(c)}, []byte{0, byte(c)}, []byte{byte(c), 0, 0, 0, 1})
	}
	for length := range 400 {
		b := make([]byte, length)
		chance.Read(b)
		lists = append(lists, b)
	}
	for _, b := range lists {
		if got, want := impl.Sum(b), int(crc32.ChecksumIEEE(b)); got != want {
			t.Fatalf("Sum of %d bytes %.40x = %x, not %x", len(b), b, got, want)
		}
	}
}

// turned is b with the bits of pattern turned from the bit at on.
func turned(b []byte, at int, pattern uint64) []byte {
	other := slices.Clone(b)
	for i := range 64 {
		if pattern>>i&1 == 1 {
			other[(at+i)/8] ^= 1 << ((at + i) % 8)
		}
	}
	return other
}

func TestSumTellsBursts(t *testing.T) {
	chance := rand.New(rand.NewSource(3333))
	b := []byte("bytes in which a row of neighbouring bits is turned")
	sum := impl.Sum(b)
	for at := range 8*len(b) - 32 {
		for length := 1; length <= 32; length++ {
			pattern := uint64(1) | 1<<(length-1) | chance.Uint64()&(1<<length-1)
			if impl.Sum(turned(b, at, pattern)) == sum {
				t.Fatalf("Sum does not tell %x turned at %d", pattern, at)
			}
		}
	}
}

// someBytes are lists of the given lengths, none of which is a text.
func someBytes(lengths ...int) [][]byte {
	chance := rand.New(rand.NewSource(33333))
	lists := [][]byte{}
	for _, length := range lengths {
		b := make([]byte, length)
		chance.Read(b)
		lists = append(lists, b)
	}
	return lists
}

func TestFrameTable(t *testing.T) {
	for _, c := range []struct {
		b    string
		want string
	}{
		{"", "\x00\x8d\xef\x02\xd2"},
		{"a", "\x01a" + string(binary.LittleEndian.AppendUint32(nil, crc32.ChecksumIEEE([]byte("\x01a"))))},
		{strings.Repeat("\x00", 128), string(withSum(append([]byte{128, 1}, make([]byte, 128)...)...))},
	} {
		if got := impl.Frame([]byte(c.b)); string(got) != c.want {
			t.Errorf("Frame(%x) = %x, not %x", c.b, got, c.want)
		}
	}
	if impl.MaxFrame != 20000 || impl.FrameGood != 0 || impl.FrameEnd != 1 || impl.FrameTorn != 2 || impl.FrameBad != 3 {
		t.Error("the constants are others")
	}
	for _, b := range someBytes(impl.MaxFrame+1, impl.MaxFrame+2, 2*impl.MaxFrame, 400000) {
		if got := impl.Frame(b); len(got) != 0 {
			t.Errorf("Frame of %d bytes has %d", len(b), len(got))
		}
	}
	if !bytes.Equal(impl.Frame(nil), impl.Frame([]byte{})) {
		t.Error("Frame of nil is not that of an empty list")
	}
}

func TestFramesComeBack(t *testing.T) {
	lists := someBytes(0, 1, 2, 3, 4, 5, 126, 127, 128, 129, 255, 256, 1000, 16382, 16383, 16384, 16385, 19999, 20000)
	lists = append(lists, []byte{0}, []byte{128}, bytes.Repeat([]byte{255}, 20), make([]byte, 20000), frameOf(nil), frameOf([]byte("ab")))
	for _, b := range lists {
		f := impl.Frame(b)
		if !bytes.Equal(f, frameOf(b)) {
			t.Fatalf("Frame of %d bytes %.40x = %.40x", len(b), b, f)
		}
		if x, next, code := impl.Unframe(f, 0); !bytes.Equal(x, b) || next != len(f) || code != impl.FrameGood {
			t.Fatalf("Unframe of Frame of %d bytes = %d bytes, %d, %d", len(b), len(x), next, code)
		}
		if x, next, code := impl.Unframe(f, len(f)); len(x) != 0 || next != len(f) || code != impl.FrameEnd {
			t.Fatalf("Unframe behind Frame of %d bytes = %d bytes, %d, %d", len(b), len(x), next, code)
		}
	}
}

func TestFramesBehindOneAnother(t *testing.T) {
	lists := append(someBytes(0, 7, 0, 20000, 127, 128, 1), []byte("ab"), []byte{}, frameOf([]byte("c")))
	all := []byte{1, 2, 3}
	for _, b := range lists {
		all = append(all, impl.Frame(b)...)
	}
	at := 3
	for _, want := range lists {
		x, next, code := impl.Unframe(all, at)
		if !bytes.Equal(x, want) || next != at+len(frameOf(want)) || code != impl.FrameGood {
			t.Fatalf("Unframe at %d = %d bytes, %d, %d, not %d bytes", at, len(x), next, code, len(want))
		}
		at = next
	}
	if x, next, code := impl.Unframe(all, at); len(x) != 0 || next != at || code != impl.FrameEnd || at != len(all) {
		t.Errorf("Unframe at the end, %d of %d = %x, %d, %d", at, len(all), x, next, code)
	}
}

func TestUnframeOutside(t *testing.T) {
	for _, b := range [][]byte{nil, {}, {0}, frameOf(nil), frameOf([]byte("abc"))} {
		if x, next, code := impl.Unframe(b, len(b)); len(x) != 0 || next != len(b) || code != impl.FrameEnd {
			t.Errorf("Unframe(%x, %d) = %x, %d, %d", b, len(b), x, next, code)
		}
		for _, at := range []int{math.MinInt, -len(b) - 1, -5, -1, len(b) + 1, len(b) + 5, math.MaxInt} {
			if x, next, code := impl.Unframe(b, at); len(x) != 0 || next != at || code != impl.FrameBad {
				t.Errorf("Unframe(%x, %d) = %x, %d, %d", b, at, x, next, code)
			}
		}
	}
}

// What is cut is torn, at whatever byte; what lies behind the cut, in the list's spare room, is not read.
func TestCutFramesAreTorn(t *testing.T) {
	ahead := frameOf([]byte("ahead"))
	for _, b := range someBytes(0, 1, 2, 4, 127, 128, 200, 16383, 16384, 20000) {
		f := frameOf(b)
		both := slices.Concat(ahead, f)
		for cut := 1; cut < len(f); cut++ {
			if x, next, code := impl.Unframe(f[:cut], 0); len(x) != 0 || next != 0 || code != impl.FrameTorn {
				t.Fatalf("Unframe of a frame of %d bytes, cut to %d = %d bytes, %d, %d", len(f), cut, len(x), next, code)
			}
			if x, next, code := impl.Unframe(both[:len(ahead)+cut], len(ahead)); len(x) != 0 || next != len(ahead) || code != impl.FrameTorn {
				t.Fatalf("Unframe of the second frame of %d bytes, cut to %d = %d bytes, %d, %d", len(f), cut, len(x), next, code)
			}
		}
		if x, next, code := impl.Unframe(both[:len(ahead)], len(ahead)); len(x) != 0 || next != len(ahead) || code != impl.FrameEnd {
			t.Fatalf("Unframe of nothing behind a frame = %x, %d, %d", x, next, code)
		}
	}
}

// What is cut is torn, too, where what is left has another sum, or begins a number that no frame has.
func TestCutIsTornAheadOfBad(t *testing.T) {
	wrong := frameOf([]byte("abcdef"))
	wrong[2] ^= 1
	for cut := 1; cut < len(wrong); cut++ {
		if _, next, code := impl.Unframe(wrong[:cut], 0); next != 0 || code != impl.FrameTorn {
			t.Errorf("Unframe of a wrong frame, cut to %d = %d, %d", cut, next, code)
		}
	}
	for _, fill := range []byte{128, 129, 255} {
		for length := 1; length <= 12; length++ {
			want := impl.FrameTorn
			if length >= 10 {
				want = impl.FrameBad
			}
			b := append([]byte{7}, bytes.Repeat([]byte{fill}, length)...)
			if x, next, code := impl.Unframe(b, 1); len(x) != 0 || next != 1 || code != want {
				t.Errorf("Unframe(%x, 1) = %x, %d, %d, not %d", b, x, next, code, want)
			}
		}
	}
}

func TestOneBitTurnedIsTold(t *testing.T) {
	behind := slices.Concat(frameOf([]byte("behind")), frameOf(nil), frameOf(make([]byte, 150)))
	for _, b := range append(someBytes(0, 1, 2, 5, 63, 64, 65, 127, 128, 129, 300), make([]byte, 40), bytes.Repeat([]byte{255}, 40)) {
		f := frameOf(b)
		for bit := range 8 * len(f) {
			other := turned(f, bit, 1)
			code := checkUnframe(t, other, 0)
			if code == impl.FrameGood || bit >= 8*len(numBytes(len(b))) && code != impl.FrameBad {
				t.Fatalf("Unframe of %x, the bit %d turned, is %d", other, bit, code)
			}
			if code := checkUnframe(t, append(other, behind...), 0); code == impl.FrameGood {
				t.Fatalf("Unframe of %x and others behind, the bit %d turned, is good", other, bit)
			}
		}
	}
	great := frameOf(someBytes(20000)[0])
	for bit := 0; bit < 8*len(great); bit += 499 {
		if _, next, code := impl.Unframe(turned(great, bit, 1), 0); code == impl.FrameGood || next != 0 {
			t.Fatalf("Unframe of the greatest frame, the bit %d turned, is %d, %d", bit, next, code)
		}
	}
}

// The numbers here are wrong, though the sum is right, and however much stands behind.
func TestUnframeOfWrongNumbers(t *testing.T) {
	numbers := [][]byte{}
	for _, n := range []int{-1, -2, math.MinInt, math.MinInt + 2, math.MaxInt, 20001, 20002, 32767, 32768, 1 << 32, 1<<32 + 2, -1 << 32} {
		numbers = append(numbers, numBytes(n))
	}
	for _, tail := range [][]byte{{0}, {2}, {127}, {128, 0}, {128, 1}} {
		for _, first := range []byte{128, 130} {
			numbers = append(numbers, slices.Concat([]byte{first}, bytes.Repeat([]byte{128}, 8), tail))
		}
	}
	numbers = append(numbers, []byte{130, 0}, []byte{128, 0}, []byte{130, 128, 0})
	for _, number := range numbers {
		for _, length := range []int{0, 1, 2, 300, 20001, 20002, 40000} {
			bare := slices.Concat(number, make([]byte, length))
			for _, b := range [][]byte{bare, withSum(bare...)} {
				if x, next, code := impl.Unframe(b, 0); len(x) != 0 || next != 0 || code != impl.FrameBad {
					t.Fatalf("Unframe of the number %x and %d bytes = %d bytes, %d, %d", number, len(b)-len(number), len(x), next, code)
				}
			}
		}
	}
}

func TestUnframeOfOtherSums(t *testing.T) {
	framed := []byte("\x05abcde")
	sums := []uint32{0, 1, math.MaxUint32, crc32.ChecksumIEEE(framed[1:]), ^crc32.ChecksumIEEE(framed), crc32.Checksum(framed, crc32.MakeTable(crc32.Castagnoli))}
	lists := [][]byte{binary.BigEndian.AppendUint32(slices.Clone(framed), crc32.ChecksumIEEE(framed))}
	for _, sum := range sums {
		lists = append(lists, binary.LittleEndian.AppendUint32(slices.Clone(framed), sum))
	}
	for place := range 4 {
		for change := 1; change < 256; change++ {
			b := withSum(framed...)
			b[len(framed)+place] ^= byte(change)
			lists = append(lists, b)
		}
	}
	for _, b := range lists {
		if x, next, code := impl.Unframe(b, 0); len(x) != 0 || next != 0 || code != impl.FrameBad {
			t.Fatalf("Unframe(%x, 0) = %x, %d, %d", b, x, next, code)
		}
	}
}

// roomy is b with spare room behind it, in which what would come next stands.
func roomy(b []byte, spare []byte) []byte {
	return slices.Concat(b, spare)[:len(b)]
}

func TestBytesStayApart(t *testing.T) {
	spare := []byte("spare room")
	inner := []byte("inner")
	lists := [][]byte{impl.PutNum(300), impl.PutText("text"), impl.PutAddr(narrow(258)), impl.PutAddr(wide(1, 2)), frameOf(inner), frameOf(nil), {128}, inner, {}}
	for _, b := range lists {
		given := roomy(b, spare)
		checkReads(t, given)
		impl.Sum(given)
		f := impl.Frame(given)
		x, _, _ := impl.Unframe(given, 0)
		for _, answer := range [][]byte{f, x} {
			answer = answer[:cap(answer)]
			for i := range answer {
				answer[i] ^= 255
			}
		}
		if !bytes.Equal(given, b) || !bytes.Equal(given[:len(b)+len(spare)][len(b):], spare) {
			t.Errorf("%x was written into, or its spare room: %x", b, given[:len(b)+len(spare)])
		}
	}
	given := frameOf(inner)
	x, _, _ := impl.Unframe(given, 0)
	s, _, _ := impl.GetText(given, 0)
	f := impl.Frame(given)
	want := slices.Clone(f)
	clear(given)
	if string(x) != "inner" || s != "inner" || !bytes.Equal(f, want) {
		t.Errorf("%q, %q or %x changed with what was handed in", x, s, f)
	}
}

// What lies behind a list's length does not make whole what is cut there.
func TestSpareRoomIsNotRead(t *testing.T) {
	for _, b := range [][]byte{impl.PutNum(-1), impl.PutText("some text"), impl.PutAddr(narrow(7)), impl.PutAddr(wide(7, 8)), frameOf(make([]byte, 130))} {
		for cut := range b {
			checkReads(t, roomy(b[:cut], b[cut:]))
		}
	}
}
