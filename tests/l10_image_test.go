package tests

import (
	"bytes"
	"fmt"
	"hash/crc32"
	"math"
	"slices"
	"strings"
	"testing"

	"loop.example/g00113/impl"
)

const mostImage = 18000

// The sorts of pieces that an image is made of; how many rows follow is a number too.
const (
	numberPiece = "number"
	rowsPiece   = "rows"
	addrPiece   = "addr"
	textPiece   = "text"
)

type piece struct {
	sort  string
	bytes []byte
}

// pieces are a state's bytes one by one, right or not.
func pieces(s impl.State) []piece {
	list := []piece{}
	num := func(n int) { list = append(list, piece{numberPiece, numBytes(n)}) }
	rows := func(n int) { list = append(list, piece{rowsPiece, numBytes(n)}) }
	addr := func(a impl.Addr) { list = append(list, piece{addrPiece, addrBytes(a)}) }
	text := func(s string) { list = append(list, piece{textPiece, append(numBytes(len(s)), s...)}) }
	num(s.Count)
	rows(len(s.Plan.Pools))
	for _, p := range s.Plan.Pools {
		addr(p.At.At)
		num(p.At.Bits)
		num(p.Bits)
	}
	rows(len(s.Plan.Blocks))
	for _, b := range s.Plan.Blocks {
		addr(b.At.At)
		num(b.At.Bits)
		text(b.Owner)
	}
	num(s.Book.Token)
	num(s.Book.Now)
	rows(len(s.Book.Leases))
	for _, l := range s.Book.Leases {
		addr(l.At)
		text(l.Owner)
		num(l.Token)
		num(l.Until)
	}
	num(s.Desk.Next)
	rows(len(s.Desk.Sessions))
	for _, x := range s.Desk.Sessions {
		num(x.Id)
		num(x.Last)
		text(x.Reply)
		num(x.Until)
	}
	return list
}

func joined(list []piece) []byte {
	b := []byte{}
	for _, p := range list {
		b = append(b, p.bytes...)
	}
	return b
}

func imageAny(s impl.State) []byte {
	return joined(pieces(s))
}

func imageWanted(s impl.State) []byte {
	b := imageAny(s)
	if !stateRight(s) || len(b) > mostImage {
		return nil
	}
	return b
}

// An imageEye reads what the library's means find, one thing behind the other; where one was not there, nothing that is read counts.
type imageEye struct {
	b     []byte
	at    int
	whole bool
}

func (e *imageEye) num() int {
	n, next, ok := numAt(e.b, e.at)
	e.at, e.whole = next, e.whole && ok
	return n
}

func (e *imageEye) addr() impl.Addr {
	a, next, ok := addrAt(e.b, e.at)
	e.at, e.whole = next, e.whole && ok
	return a
}

func (e *imageEye) text() string {
	s, next, ok := textAt(e.b, e.at)
	e.at, e.whole = next, e.whole && ok
	return s
}

func (e *imageEye) prefix() impl.Prefix {
	at := e.addr()
	return impl.Prefix{At: at, Bits: e.num()}
}

// rows does what reads a row as often as is told; no more rows stand there than there are bytes.
func (e *imageEye) rows(do func()) {
	n := e.num()
	if n < 0 || n > len(e.b) {
		e.whole = false
	}
	for i := 0; e.whole && i < n; i++ {
		do()
	}
}

// stateOfBytes reads what stands in b, and asks whether it is right and goes to the end.
func stateOfBytes(b []byte) (impl.State, bool) {
	s, e := impl.State{}, &imageEye{b: b, whole: true}
	s.Count = e.num()
	e.rows(func() {
		at := e.prefix()
		s.Plan.Pools = append(s.Plan.Pools, impl.Pool{At: at, Bits: e.num()})
	})
	e.rows(func() {
		at := e.prefix()
		s.Plan.Blocks = append(s.Plan.Blocks, impl.Block{At: at, Owner: e.text()})
	})
	s.Book.Token = e.num()
	s.Book.Now = e.num()
	e.rows(func() {
		l := impl.Lease{At: e.addr()}
		l.Owner = e.text()
		l.Token = e.num()
		l.Until = e.num()
		s.Book.Leases = append(s.Book.Leases, l)
	})
	s.Desk.Next = e.num()
	e.rows(func() {
		x := impl.Session{Id: e.num()}
		x.Last = e.num()
		x.Reply = e.text()
		x.Until = e.num()
		s.Desk.Sessions = append(s.Desk.Sessions, x)
	})
	if !e.whole || e.at != len(b) || !stateRight(s) || len(b) > mostImage {
		return impl.State{}, false
	}
	return s, true
}

// aloneIn are the lines of what list has and the other has not.
func aloneIn[T comparable](sign string, list []T, other []T, text func(T) string) []string {
	lines := []string{}
	for _, x := range list {
		if !slices.Contains(other, x) {
			lines = append(lines, sign+" "+text(x))
		}
	}
	return lines
}

func bothAlone[T comparable](a []T, b []T, text func(T) string) []string {
	return append(aloneIn("-", a, b, text), aloneIn("+", b, a, text)...)
}

func withoutReplies(d impl.Desk) impl.Desk {
	d = cloneDesk(d)
	for i := range d.Sessions {
		d.Sessions[i].Reply = ""
	}
	return d
}

func diffWanted(a impl.State, b impl.State) []string {
	if !stateRight(a) || !stateRight(b) {
		return nil
	}
	number := func(word string) func(int) string {
		return func(n int) string { return fmt.Sprintf("%s %d", word, n) }
	}
	return slices.Concat(
		bothAlone(a.Plan.Pools, b.Plan.Pools, func(p impl.Pool) string {
			return fmt.Sprintf("pool %s %d", textsOf([]impl.Prefix{p.At}), p.Bits)
		}),
		bothAlone(a.Plan.Blocks, b.Plan.Blocks, func(x impl.Block) string {
			return fmt.Sprintf("block %s %s", textsOf([]impl.Prefix{x.At}), x.Owner)
		}),
		bothAlone(a.Book.Leases, b.Book.Leases, func(l impl.Lease) string {
			return fmt.Sprintf("lease %s %s %d %d", netText(netOf(l.At)), l.Owner, l.Token, l.Until)
		}),
		bothAlone(withoutReplies(a.Desk).Sessions, withoutReplies(b.Desk).Sessions, func(s impl.Session) string {
			return fmt.Sprintf("session %d %d %d", s.Id, s.Last, s.Until)
		}),
		bothAlone([]int{a.Book.Token}, []int{b.Book.Token}, number("token")),
		bothAlone([]int{a.Book.Now}, []int{b.Book.Now}, number("now")),
		bothAlone([]int{a.Desk.Next}, []int{b.Desk.Next}, number("next")),
		bothAlone([]int{a.Count}, []int{b.Count}, number("count")),
	)
}

// askedBoth hands both in with spare room behind their lists, and fails if the call changes them or the room.
func askedBoth(t *testing.T, a impl.State, b impl.State, call func(impl.State, impl.State)) {
	t.Helper()
	askedState(t, a, func(x impl.State) impl.State {
		askedState(t, b, func(y impl.State) impl.State {
			call(x, y)
			return impl.State{}
		})
		return impl.State{}
	})
}

// checkPut holds the bytes and their sum against what is wanted, and a second answer against the first, which was written over.
func checkPut(t *testing.T, s impl.State) []byte {
	t.Helper()
	want := imageWanted(s)
	for range 2 {
		askedState(t, s, func(x impl.State) impl.State {
			b := impl.PutState(x)
			if !bytes.Equal(b, want) {
				t.Fatalf("PutState(%v) = %x, not %x", s, b, want)
			}
			for i := range b[:cap(b)] {
				b[:cap(b)][i] = 'x'
			}
			if sum := impl.StateSum(x); sum != int(crc32.ChecksumIEEE(want)) || sum != impl.Sum(want) {
				t.Fatalf("StateSum(%v) = %d", s, sum)
			}
			return impl.State{}
		})
	}
	return want
}

// checkGet hands b in with spare room behind it that would go on with it, and writes over all of it, and over a first answer, then.
func checkGet(t *testing.T, b []byte) (impl.State, bool) {
	t.Helper()
	kept, spare := slices.Clone(b), []byte{0, 1, 0, 0}
	given := roomy(b, spare)
	first, _ := impl.GetState(given)
	scribbleState(first)
	got, ok := impl.GetState(given)
	room := given[:len(b)+len(spare)]
	if !bytes.Equal(room, slices.Concat(kept, spare)) {
		t.Fatalf("GetState changed %x, or what stands behind: %x", kept, room)
	}
	for i := range room {
		room[i] = 'x'
	}
	if want, good := stateOfBytes(kept); ok != good || !isSameState(got, want) {
		t.Fatalf("GetState(%x) = %v, %v, not %v, %v", kept, got, ok, want, good)
	}
	return got, ok
}

func refusedImage(t *testing.T, b []byte) {
	t.Helper()
	if s, ok := checkGet(t, b); ok || !isSameState(s, impl.State{}) {
		t.Errorf("GetState(%x) = %v, %v", b, s, ok)
	}
}

// checkImage asks that a right state comes back of its bytes, and that a wrong one has none.
func checkImage(t *testing.T, s impl.State) bool {
	t.Helper()
	b := checkPut(t, s)
	got, ok := checkGet(t, b)
	if ok != stateRight(s) || ok && !isSameState(got, s) {
		t.Fatalf("GetState(PutState(%v)) = %v, %v", s, got, ok)
	}
	return ok
}

func checkSame(t *testing.T, a impl.State, b impl.State) bool {
	t.Helper()
	same := isSameState(a, b)
	askedBoth(t, a, b, func(x impl.State, y impl.State) {
		if impl.SameState(x, y) != same || impl.SameState(y, x) != same {
			t.Fatalf("SameState(%v, %v) is not %v", a, b, same)
		}
	})
	return same
}

func checkDiff(t *testing.T, a impl.State, b impl.State) []string {
	t.Helper()
	want := diffWanted(a, b)
	for range 2 {
		askedBoth(t, a, b, func(x impl.State, y impl.State) {
			lines := impl.StateDiff(x, y)
			if !slices.Equal(lines, want) {
				t.Fatalf("StateDiff(%v, %v) = %q, not %q", a, b, lines, want)
			}
			clear(lines[:cap(lines)])
		})
	}
	return want
}

// checkPair holds two states against each other in each way: the same ones have the same bytes, and no lines tell them apart.
func checkPair(t *testing.T, a impl.State, b impl.State) {
	t.Helper()
	same := checkSame(t, a, b)
	there, back := checkDiff(t, a, b), checkDiff(t, b, a)
	if !stateRight(a) || !stateRight(b) {
		if len(there) > 0 || len(back) > 0 {
			t.Fatal("lines of a wrong state:", there, back)
		}
		return
	}
	if bytes.Equal(impl.PutState(a), impl.PutState(b)) != same {
		t.Fatalf("the bytes of %v and %v do not tell them apart", a, b)
	}
	a.Desk, b.Desk = withoutReplies(a.Desk), withoutReplies(b.Desk)
	if (len(there) == 0) != isSameState(a, b) {
		t.Fatalf("%v and %v, but for replies: %q", a, b, there)
	}
	turned := []string{}
	for _, line := range back {
		turned = append(turned, strings.NewReplacer("- ", "+ ", "+ ", "- ").Replace(line[:2])+line[2:])
	}
	slices.Sort(turned)
	sorted := slices.Sorted(slices.Values(there))
	if !slices.Equal(turned, sorted) {
		t.Fatalf("there %q, back %q", there, back)
	}
}

// fullState has as many pools, blocks, leases and sessions as may be.
func fullState() impl.State {
	s := impl.State{Plan: filled(poolsOf(mostPools, 6), 3, mostBlocks), Desk: sessionsOf(mostSessions), Count: 5}
	s.Book = impl.Book{Token: 100, Now: 50}
	for i := range mostLeases {
		b := s.Plan.Blocks[i%mostBlocks]
		at := b.At.At
		at.Lo += i / mostBlocks
		s.Book = withLease(s.Book, impl.Lease{At: at, Owner: b.Owner, Token: i + 1, Until: 90 + i})
	}
	return s
}

// longestState is full too, and each of its fields is as long as it may be beside the others: a block of 128 bits has one address, so one block of fewer holds the leases that are left, and one pool of fewer the blocks that are left.
func longestState() impl.State {
	const owner = "twelve-bytes"
	s := impl.State{Count: math.MaxInt}
	single := func(i int) impl.Addr { return wide(0x7000000000000000, i) }
	for i := range mostPools - 2 {
		s.Plan.Pools = append(s.Plan.Pools, impl.Pool{At: impl.Prefix{At: single(i), Bits: 128}, Bits: 128})
	}
	s.Plan.Pools = append(s.Plan.Pools, impl.Pool{At: impl.Prefix{At: single(256), Bits: 120}, Bits: 128}, impl.Pool{At: impl.Prefix{At: single(512), Bits: 120}, Bits: 120})
	s.Book = impl.Book{Token: lastToken, Now: lastTime - 1}
	lease := func(a impl.Addr) {
		n := len(s.Book.Leases)
		s.Book.Leases = append(s.Book.Leases, impl.Lease{At: a, Owner: owner, Token: lastToken - n, Until: lastTime})
	}
	for i := range mostBlocks - 1 {
		at := single(i)
		if i >= mostPools-2 {
			at = single(256 + i)
		}
		s.Plan.Blocks = append(s.Plan.Blocks, impl.Block{At: impl.Prefix{At: at, Bits: 128}, Owner: owner})
		lease(at)
	}
	s.Plan.Blocks = append(s.Plan.Blocks, impl.Block{At: impl.Prefix{At: single(512), Bits: 120}, Owner: owner})
	for i := range mostLeases - len(s.Book.Leases) {
		lease(single(512 + i))
	}
	s.Desk.Next = lastNext
	for i := range mostSessions {
		s.Desk.Sessions = append(s.Desk.Sessions, impl.Session{Id: lastNext - 20 + i, Last: lastSeq, Reply: strings.Repeat("r", longestReply), Until: lastTime})
	}
	return s
}

// smallState has one row of each sort, all of their fields of one byte but Now and the ends.
func smallState(t *testing.T) impl.State {
	t.Helper()
	return impl.State{
		Plan:  planOfTexts(t, "10.0.0.0/24>26", "10.0.0.64/26=bob"),
		Book:  bookOfTexts(t, "10.0.0.65=bob,3,2000", 5, 1000),
		Desk:  deskOfTexts(t, "2=3,ok,500", 7),
		Count: 300,
	}
}

func rightStates(t *testing.T) map[string]impl.State {
	t.Helper()
	list := map[string]impl.State{
		"new":     impl.StateNew(),
		"small":   smallState(t),
		"plain":   plainState(t),
		"full":    fullState(),
		"longest": longestState(),
		"pools":   {Plan: planOfTexts(t, somePools, ""), Desk: impl.Desk{Next: 1}},
		"blocks":  {Plan: planOfTexts(t, somePools, someBlocks), Desk: impl.Desk{Next: 1}},
		"desk":    {Desk: deskOfTexts(t, someSessions, 9)},
		"late":    {Book: impl.Book{Token: lastToken, Now: lastTime}, Desk: impl.Desk{Next: lastNext}, Count: math.MaxInt},
		"all":     {Plan: planOfTexts(t, "0.0.0.0/0>0 ::/0>0", "0.0.0.0/0=a ::/0=-"), Book: bookOfTexts(t, "0.0.0.0=a,1,1 255.255.255.255=a,2,1 ::=-,3,1 ffff:ffff:ffff:ffff:ffff:ffff:ffff:ffff=-,4,1", 4, 0), Desk: impl.Desk{Next: 1}},
	}
	list["all"].Book.Leases[1].Until = lastTime
	return list
}

func TestImageConstants(t *testing.T) {
	if impl.MaxImage != mostImage {
		t.Error(impl.MaxImage)
	}
}

func TestRightStatesComeBack(t *testing.T) {
	for name, s := range rightStates(t) {
		if !checkImage(t, s) {
			t.Error("not right:", name)
		}
	}
}

func TestPutStateTable(t *testing.T) {
	wide := impl.State{
		Plan:  planOfTexts(t, "10.0.1.0/24>24 2001:db8::/32>48 ffff::/128>128", "2001:db8:1::/48=ann ffff::/128=z-9"),
		Book:  bookOfTexts(t, "2001:db8:1::2=ann,128,129 ffff::=z-9,127,1000000000", 16384, 128),
		Desk:  deskOfTexts(t, "1=0,,0 127=1000000,,127 128=1,a,128", 129),
		Count: 127,
	}
	for _, c := range []struct {
		name  string
		state impl.State
		want  string
	}{
		{"new", impl.StateNew(), "00 00 00 0000 00 01 00"},
		{"count", impl.State{Desk: impl.Desk{Next: 1}, Count: 128}, "8001 00 00 0000 00 01 00"},
		{"greatest count", impl.State{Desk: impl.Desk{Next: 1}, Count: math.MaxInt}, "ffffffffffffffff7f 00 00 0000 00 01 00"},
		{"token", impl.State{Book: impl.Book{Token: 1}, Desk: impl.Desk{Next: 1}}, "00 00 00 0100 00 01 00"},
		{"now", impl.State{Book: impl.Book{Now: 1}, Desk: impl.Desk{Next: 1}}, "00 00 00 0001 00 01 00"},
		{"next", impl.State{Desk: impl.Desk{Next: 300}}, "00 00 00 0000 00 ac02 00"},
		{"small", smallState(t), "ac02 01 040a000000181a 01 040a0000401a03626f62 05e807 01 040a00004103626f6203d00f 07 01 0203026f6bf403"},
		{"wide", wide, "7f" +
			"03 040a00010018 18 0620010db800000000000000000000000020 30 06ffff00000000000000000000000000008001 8001" +
			"02 0620010db800010000000000000000000030 03616e6e 06ffff00000000000000000000000000008001 037a2d39" +
			"808001 8001" +
			"02 0620010db8000100000000000000000002 03616e6e 8001 8101 06ffff0000000000000000000000000000 037a2d39 7f 8094ebdc03" +
			"8101 03 01000000 7fc0843d007f 8001 01 0161 8001"},
	} {
		want := []byte{}
		if _, err := fmt.Sscanf(strings.ReplaceAll(c.want, " ", ""), "%x", &want); err != nil {
			t.Fatal(c.name, err)
		}
		if !checkImage(t, c.state) {
			t.Error("not right:", c.name)
		}
		if b := impl.PutState(c.state); !bytes.Equal(b, want) {
			t.Errorf("%s: %x, not %x", c.name, b, want)
		}
		if s, ok := impl.GetState(want); !ok || !isSameState(s, c.state) {
			t.Errorf("%s: %v, %v", c.name, s, ok)
		}
	}
}

// No right state comes near MaxImage: what each field may have at most, all of them at once, is fewer bytes. So the longest one is put whole, and bytes of MaxImage and around are no state's.
func TestLongestImages(t *testing.T) {
	s := longestState()
	bound := 9 + 1 + mostPools*(17+2+2) + 1 + mostBlocks*(17+2+1+mostOwner) + 5 + 5 + 1 + mostLeases*(17+1+mostOwner+5+5) + 3 + 1 + mostSessions*(3+3+2+longestReply+5)
	b := checkPut(t, s)
	if !checkImage(t, s) || len(b) != 8118 || bound >= mostImage || len(b) > bound {
		t.Error(len(b), bound)
	}
	for _, size := range []int{mostImage - 1, mostImage, mostImage + 1, mostImage + 2, 2 * mostImage} {
		long := cloneState(s)
		long.Desk.Sessions[11].Reply += strings.Repeat("r", size-len(b))
		// More than 16383 bytes take one more byte for how many they are; those of the longest one have two already.
		for len(imageAny(long)) > size {
			long.Desk.Sessions[11].Reply = long.Desk.Sessions[11].Reply[1:]
		}
		if n := len(imageAny(long)); n != size {
			t.Fatal("the image would have", n, "bytes, not", size)
		}
		if checkImage(t, long) {
			t.Error("right:", size)
		}
		refusedImage(t, imageAny(long))
		refusedImage(t, append(slices.Clone(b), make([]byte, size-len(b))...))
		refusedImage(t, make([]byte, size))
		refusedImage(t, bytes.Repeat([]byte{255}, size))
	}
}

// A wrong state has no bytes; and bytes that would be its own are refused, but where an address that is none has lost what made it so.
func TestImagesOfWrongStates(t *testing.T) {
	states := wrongStates(t)
	for name, p := range wrongPlans(t) {
		states["plan: "+name] = impl.State{Plan: p, Desk: impl.Desk{Next: 1}}
	}
	for name, b := range wrongBooks(t) {
		states["book: "+name] = impl.State{Plan: aroundLeases(t), Book: b, Desk: impl.Desk{Next: 1}}
	}
	for name, d := range wrongDesks(t) {
		states["desk: "+name] = impl.State{Desk: d}
	}
	for _, n := range []int{-1, -2, math.MinInt} {
		s := plainState(t)
		s.Count = n
		states[fmt.Sprint("Count ", n)] = s
	}
	taken := 0
	for name, s := range states {
		if checkImage(t, s) || impl.StateSum(s) != 0 {
			t.Error("right:", name)
		}
		if got, ok := checkGet(t, imageAny(s)); ok && isSameState(got, s) {
			t.Error("taken:", name)
		} else if ok {
			taken++
		}
		for _, right := range rightStates(t) {
			checkPair(t, s, right)
		}
		checkPair(t, s, s)
	}
	if len(states) < 100 || taken > 3 {
		t.Error("the states are not wrong by their bytes:", len(states), taken)
	}
}

// One row more than there may be, of each sort, all else being right.
func TestImagesOfTooManyRows(t *testing.T) {
	pools := fullState()
	pools.Plan.Pools = poolsOf(mostPools+1, 6).Pools
	blocks := fullState()
	blocks.Plan = filled(poolsOf(mostPools, 6), 3, mostBlocks+1)
	leases := fullState()
	extra := leases.Plan.Blocks[59]
	at := extra.At.At
	at.Lo += 9
	leases.Book = withLease(leases.Book, impl.Lease{At: at, Owner: extra.Owner, Token: 99, Until: 99})
	sessions := fullState()
	sessions.Desk = sessionsOf(mostSessions + 1)
	for name, s := range map[string]impl.State{"pools": pools, "blocks": blocks, "leases": leases, "sessions": sessions} {
		if checkImage(t, s) {
			t.Error("right:", name)
		}
		refusedImage(t, imageAny(s))
	}
}

func TestGetStateCutAndBehind(t *testing.T) {
	for _, s := range rightStates(t) {
		b := imageAny(s)
		for n := range b {
			refusedImage(t, b[:n])
			checkGet(t, b[n:])
		}
		for behind := range 256 {
			refusedImage(t, append(slices.Clone(b), byte(behind)))
		}
		refusedImage(t, slices.Concat(b, b))
		checkGet(t, slices.Concat([]byte{0}, b))
	}
	refusedImage(t, nil)
	refusedImage(t, []byte{})
}

// changedPieces has one piece of an image otherwise, at a place.
func changedPieces(list []piece, place int, b []byte) []byte {
	list = slices.Clone(list)
	list[place].bytes = b
	return joined(list)
}

// fewStates are those of rightStates whose images are short enough to be changed at every place.
func fewStates(t *testing.T) []impl.State {
	t.Helper()
	all := rightStates(t)
	return []impl.State{all["new"], all["small"], all["plain"], all["late"], all["all"]}
}

func TestGetStateOfNeedlessBytes(t *testing.T) {
	for _, s := range append(fewStates(t), fullState()) {
		list := pieces(s)
		for i, p := range list {
			if p.sort == addrPiece {
				continue
			}
			_, size, _ := numAt(p.bytes, 0)
			for _, tail := range [][]byte{{0}, {128, 0}} {
				head := slices.Clone(p.bytes[:size])
				head[size-1] |= 128
				refusedImage(t, changedPieces(list, i, slices.Concat(head, tail, p.bytes[size:])))
			}
		}
	}
}

// Numbers of more than 64 bits, those that have the right one in their last 64 or 32 bits, and those below 0, in each number's place.
func TestGetStateOfGreatNumbers(t *testing.T) {
	for _, s := range fewStates(t) {
		list := pieces(s)
		for i, p := range list {
			if p.sort == addrPiece {
				continue
			}
			n, size, _ := numAt(p.bytes, 0)
			past := append(numBytes(n | math.MinInt)[:9], 3)
			for _, number := range [][]byte{past, bytes.Repeat([]byte{255}, 12), numBytes(n | math.MinInt), numBytes(-1), numBytes(math.MinInt)} {
				refusedImage(t, changedPieces(list, i, slices.Concat(number, p.bytes[size:])))
			}
			for _, number := range [][]byte{numBytes(n | 1<<32), numBytes(math.MaxInt)} {
				if i > 0 && n != math.MaxInt {
					refusedImage(t, changedPieces(list, i, slices.Concat(number, p.bytes[size:])))
				} else {
					checkGet(t, changedPieces(list, i, slices.Concat(number, p.bytes[size:])))
				}
			}
		}
	}
}

func TestGetStateOfOtherCounts(t *testing.T) {
	for _, s := range append(fewStates(t), fullState(), longestState()) {
		list := pieces(s)
		for i, p := range list {
			if p.sort != rowsPiece {
				continue
			}
			right, _, _ := numAt(p.bytes, 0)
			for _, n := range []int{right - 1, right + 1, right + 2, mostSessions + 1, mostPools + 1, mostBlocks + 1, mostLeases + 1, 127, 128, 255, 256, 1 << 16, 1 << 31, 1 << 32, 1<<32 + right, 1 << 62, math.MaxInt, math.MinInt, -1} {
				refusedImage(t, changedPieces(list, i, numBytes(n)))
				checkGet(t, append(joined(list[:i]), numBytes(n)...))
			}
		}
	}
}

// Each piece left out, told twice, or in its neighbour's place.
func TestGetStateOfOtherRows(t *testing.T) {
	for _, s := range fewStates(t) {
		list := pieces(s)
		for i := range list {
			checkGet(t, joined(slices.Delete(slices.Clone(list), i, i+1)))
			checkGet(t, joined(slices.Insert(slices.Clone(list), i, list[i])))
			for j := range i {
				swapped := slices.Clone(list)
				swapped[i], swapped[j] = swapped[j], swapped[i]
				checkGet(t, joined(swapped))
			}
		}
	}
}

func TestGetStateOfBytesNearby(t *testing.T) {
	counts := map[bool]int{}
	small := imageAny(smallState(t))
	for i := range small {
		for c := range 256 {
			b := slices.Clone(small)
			b[i] = byte(c)
			_, ok := checkGet(t, b)
			counts[ok]++
		}
	}
	for _, s := range fewStates(t) {
		image := imageAny(s)
		for i := range image {
			for _, c := range []byte{0, 1, 2, 4, 6, 31, 32, 33, 127, 128, 129, 255, image[i] + 1, image[i] - 1, image[i] ^ 128} {
				b := slices.Clone(image)
				b[i] = c
				_, ok := checkGet(t, b)
				counts[ok]++
				checkGet(t, slices.Insert(slices.Clone(image), i, c))
			}
			checkGet(t, slices.Delete(slices.Clone(image), i, i+1))
		}
	}
	if counts[true] < 1000 || counts[false] < 1000 {
		t.Error("the bytes are too much alike:", counts)
	}
}

// All bytes of few values and lengths.
func TestGetStateOfAllShortBytes(t *testing.T) {
	found := 0
	for n := range 1 << 16 {
		b := make([]byte, 8)
		for i := range b {
			b[i] = []byte{0, 1, 2, 128}[n>>(2*i)&3]
		}
		for size := 6; size <= len(b); size++ {
			want, good := stateOfBytes(b[:size])
			s, ok := impl.GetState(b[:size])
			if ok != good || !isSameState(s, want) {
				t.Fatalf("GetState(%x) = %v, %v, not %v, %v", b[:size], s, ok, want, good)
			}
			if ok {
				found++
			}
		}
	}
	if found == 0 {
		t.Error("no state")
	}
}

// Replies are any bytes, not texts of runes alone.
func TestImagesOfReplies(t *testing.T) {
	for _, reply := range append(replies(), "\x00", "\xff\xfe", "\n", " ", "a\x00b", strings.Repeat("\x80", longestReply), strings.Repeat("ä", 64), strings.Repeat("r", 127), strings.Repeat("r", 128)) {
		s := plainState(t)
		s.Desk.Sessions[0].Reply = reply
		if checkImage(t, s) != (len(reply) <= longestReply) {
			t.Errorf("%q", reply)
		}
		checkPair(t, s, plainState(t))
	}
}

// A change makes another state of one: right or wrong, but not the same.
type change struct {
	name string
	do   func(*impl.State)
}

func numberChanges(name string, field func(*impl.State) *int) []change {
	list := []change{}
	for _, by := range []int{1, -1, 7, 1 << 32, 1 << 62, math.MinInt} {
		list = append(list, change{fmt.Sprint(name, " and ", by), func(s *impl.State) { *field(s) += by }})
	}
	return append(list, change{name + " turned", func(s *impl.State) { *field(s) = ^*field(s) }})
}

func textChanges(name string, field func(*impl.State) *string) []change {
	return []change{
		{name + " longer", func(s *impl.State) { *field(s) += "x" }},
		{name + " with a nought behind", func(s *impl.State) { *field(s) += "\x00" }},
		{name + " with more ahead", func(s *impl.State) { *field(s) = "x" + *field(s) }},
		{name + " of another length", func(s *impl.State) { *field(s) = strings.Repeat("z", 5) }},
		{name + " of the same length", func(s *impl.State) { *field(s) = strings.Repeat("q", len(*field(s))) }},
	}
}

func addrChanges(name string, field func(*impl.State) *impl.Addr) []change {
	return slices.Concat(
		[]change{{name + ".Six", func(s *impl.State) { field(s).Six = !field(s).Six }}},
		numberChanges(name+".Hi", func(s *impl.State) *int { return &field(s).Hi }),
		numberChanges(name+".Lo", func(s *impl.State) *int { return &field(s).Lo }),
	)
}

func prefixChanges(name string, field func(*impl.State) *impl.Prefix) []change {
	return append(
		addrChanges(name+".At", func(s *impl.State) *impl.Addr { return &field(s).At }),
		numberChanges(name+".Bits", func(s *impl.State) *int { return &field(s).Bits })...,
	)
}

// listChanges have the rows in other numbers and orders: each left out, told twice, one of zeros ahead and behind, any two in each other's place, none at all.
func listChanges[T any](name string, field func(*impl.State) *[]T, count int) []change {
	var zero T
	list := []change{
		{name + " with zeros ahead", func(s *impl.State) { *field(s) = slices.Insert(*field(s), 0, zero) }},
		{name + " with zeros behind", func(s *impl.State) { *field(s) = append(*field(s), zero) }},
		{name + " gone", func(s *impl.State) { *field(s) = nil }},
		{name + " turned round", func(s *impl.State) { slices.Reverse(*field(s)) }},
	}
	for i := range count {
		list = append(list,
			change{fmt.Sprint(name, " without ", i), func(s *impl.State) { *field(s) = slices.Delete(*field(s), i, i+1) }},
			change{fmt.Sprint(name, " twice ", i), func(s *impl.State) { *field(s) = slices.Insert(*field(s), i, (*field(s))[i]) }},
			change{fmt.Sprint(name, " up to ", i), func(s *impl.State) { *field(s) = (*field(s))[:i] }},
		)
		for j := range i {
			list = append(list, change{fmt.Sprint(name, " swapped ", j, i), func(s *impl.State) {
				(*field(s))[i], (*field(s))[j] = (*field(s))[j], (*field(s))[i]
			}})
		}
	}
	return list
}

// changesOf are of each field of each row, of each list, and of each number alone.
func changesOf(s impl.State) []change {
	list := slices.Concat(
		numberChanges("Count", func(s *impl.State) *int { return &s.Count }),
		numberChanges("Token", func(s *impl.State) *int { return &s.Book.Token }),
		numberChanges("Now", func(s *impl.State) *int { return &s.Book.Now }),
		numberChanges("Next", func(s *impl.State) *int { return &s.Desk.Next }),
		listChanges("pools", func(s *impl.State) *[]impl.Pool { return &s.Plan.Pools }, len(s.Plan.Pools)),
		listChanges("blocks", func(s *impl.State) *[]impl.Block { return &s.Plan.Blocks }, len(s.Plan.Blocks)),
		listChanges("leases", func(s *impl.State) *[]impl.Lease { return &s.Book.Leases }, len(s.Book.Leases)),
		listChanges("sessions", func(s *impl.State) *[]impl.Session { return &s.Desk.Sessions }, len(s.Desk.Sessions)),
	)
	for i := range s.Plan.Pools {
		name := fmt.Sprint("pool ", i)
		list = append(list, prefixChanges(name, func(s *impl.State) *impl.Prefix { return &s.Plan.Pools[i].At })...)
		list = append(list, numberChanges(name+".Bits", func(s *impl.State) *int { return &s.Plan.Pools[i].Bits })...)
	}
	for i := range s.Plan.Blocks {
		name := fmt.Sprint("block ", i)
		list = append(list, prefixChanges(name, func(s *impl.State) *impl.Prefix { return &s.Plan.Blocks[i].At })...)
		list = append(list, textChanges(name+".Owner", func(s *impl.State) *string { return &s.Plan.Blocks[i].Owner })...)
	}
	for i := range s.Book.Leases {
		name := fmt.Sprint("lease ", i)
		list = append(list, addrChanges(name, func(s *impl.State) *impl.Addr { return &s.Book.Leases[i].At })...)
		list = append(list, textChanges(name+".Owner", func(s *impl.State) *string { return &s.Book.Leases[i].Owner })...)
		list = append(list, numberChanges(name+".Token", func(s *impl.State) *int { return &s.Book.Leases[i].Token })...)
		list = append(list, numberChanges(name+".Until", func(s *impl.State) *int { return &s.Book.Leases[i].Until })...)
	}
	for i := range s.Desk.Sessions {
		name := fmt.Sprint("session ", i)
		list = append(list, numberChanges(name+".Id", func(s *impl.State) *int { return &s.Desk.Sessions[i].Id })...)
		list = append(list, numberChanges(name+".Last", func(s *impl.State) *int { return &s.Desk.Sessions[i].Last })...)
		list = append(list, textChanges(name+".Reply", func(s *impl.State) *string { return &s.Desk.Sessions[i].Reply })...)
		list = append(list, numberChanges(name+".Until", func(s *impl.State) *int { return &s.Desk.Sessions[i].Until })...)
	}
	return list
}

// Whatever differs alone, the states are not the same, be they right or not; each is the same as itself.
func TestStatesThatDifferInOneThing(t *testing.T) {
	counts, idle := map[bool]int{}, 0
	for _, plain := range []impl.State{plainState(t), smallState(t)} {
		for _, c := range changesOf(plain) {
			s := cloneState(plain)
			c.do(&s)
			if isSameState(s, plain) {
				idle++
				continue
			}
			if checkSame(t, plain, s) || !checkSame(t, s, cloneState(s)) || impl.SameState(s, plain) || !impl.SameState(s, cloneState(s)) {
				t.Error(c.name)
			}
			checkPair(t, plain, s)
			counts[checkImage(t, s)]++
		}
	}
	// One row turned round, and an empty reply of the same length, are what they were.
	if counts[true] < 100 || counts[false] < 300 || idle != 5 {
		t.Error("the changes are too much alike:", counts, idle)
	}
}

// A list without elements and nil are the same, whatever stands behind; a wrong address is not the zero one.
func TestSameStateOfEmptyLists(t *testing.T) {
	a := impl.StateNew()
	b := impl.State{Plan: impl.Plan{Pools: []impl.Pool{}, Blocks: []impl.Block{}}, Book: impl.Book{Leases: []impl.Lease{}}, Desk: impl.Desk{Sessions: []impl.Session{}, Next: 1}}
	roomyState, _ := withRoom(b)
	for _, s := range []impl.State{a, b, roomyState} {
		for _, other := range []impl.State{a, b, roomyState} {
			if !checkSame(t, s, other) || !impl.SameState(s, other) || len(impl.StateDiff(s, other)) != 0 || impl.StateSum(s) != impl.StateSum(other) {
				t.Error(s, other)
			}
		}
	}
	if !impl.SameState(impl.State{}, impl.State{}) || impl.SameState(impl.State{}, a) || impl.SameState(a, impl.State{}) {
		t.Error("the zero state")
	}
	wrong := impl.State{Book: impl.Book{Leases: []impl.Lease{{At: impl.Addr{Hi: 1}}}}}
	zero := impl.State{Book: impl.Book{Leases: []impl.Lease{{}}}}
	if checkSame(t, wrong, zero) || !checkSame(t, wrong, cloneState(wrong)) {
		t.Error("a wrong address")
	}
}

func TestStateSumTable(t *testing.T) {
	if n := impl.StateSum(impl.StateNew()); n != int(crc32.ChecksumIEEE([]byte{0, 0, 0, 0, 0, 0, 1, 0})) {
		t.Error(n)
	}
	if n := impl.StateSum(impl.State{}); n != 0 {
		t.Error("zero:", n)
	}
	sums := map[int]string{}
	for name, s := range rightStates(t) {
		n := impl.StateSum(s)
		if n != impl.Sum(impl.PutState(s)) || n != int(crc32.ChecksumIEEE(imageAny(s))) {
			t.Error(name, n)
		}
		if other, there := sums[n]; there {
			t.Error(name, "and", other, "have one sum")
		}
		sums[n] = name
	}
}

func TestStateDiffTable(t *testing.T) {
	for _, c := range []struct {
		name string
		do   func(*impl.State)
		want string
	}{
		{"nothing", func(s *impl.State) {}, ""},
		{"a pool gone", func(s *impl.State) {
			s.Plan.Pools = s.Plan.Pools[:3]
			s.Plan.Blocks = s.Plan.Blocks[:5]
			s.Book.Leases = s.Book.Leases[:7]
		},
			"- pool 2001:db8::/32 48, - block 2001:db8::/48 ann, - lease 2001:db8:: ann 2 80"},
		{"a pool more", func(s *impl.State) { s.Plan = withPool(s.Plan, poolOfText(t, "0.0.0.0/8>28")) }, "+ pool 0.0.0.0/8 28"},
		{"a pool in another's place", func(s *impl.State) {
			s.Plan.Blocks, s.Book.Leases = s.Plan.Blocks[:5], s.Book.Leases[:7]
			s.Plan.Pools[3] = poolOfText(t, "::/8>9")
		}, "- pool 2001:db8::/32 48, + pool ::/8 9, - block 2001:db8::/48 ann, - lease 2001:db8:: ann 2 80"},
		{"a pool's bits", func(s *impl.State) {
			s.Plan.Blocks, s.Book.Leases, s.Plan.Pools[3].Bits = s.Plan.Blocks[:5], s.Book.Leases[:7], 49
		}, "- pool 2001:db8::/32 48, + pool 2001:db8::/32 49, - block 2001:db8::/48 ann, - lease 2001:db8:: ann 2 80"},
		{"a block more", func(s *impl.State) { s.Plan = carved(t, s.Plan, "10.0.0.128/26=c") }, "+ block 10.0.0.128/26 c"},
		{"a block gone", func(s *impl.State) { s.Plan.Blocks = slices.Delete(s.Plan.Blocks, 3, 4) }, "- block 10.0.2.0/25 bob"},
		{"a block's owner", func(s *impl.State) { s.Plan.Blocks[3].Owner = "c" }, "- block 10.0.2.0/25 bob, + block 10.0.2.0/25 c"},
		{"blocks change places", func(s *impl.State) { s.Plan.Blocks[3].Owner, s.Plan.Blocks[4].Owner = "ann", "bob" },
			"- block 10.0.2.0/25 bob, - block 10.0.2.128/25 ann, + block 10.0.2.0/25 ann, + block 10.0.2.128/25 bob"},
		{"a lease gone", func(s *impl.State) { s.Book.Leases = s.Book.Leases[1:] }, "- lease 10.0.0.0 ann 3 60"},
		{"a lease more", func(s *impl.State) {
			s.Book = withLease(s.Book, impl.Lease{At: addrOfText(t, "10.0.0.1"), Owner: "ann", Token: 9, Until: 31})
		}, "+ lease 10.0.0.1 ann 9 31"},
		{"a lease's address", func(s *impl.State) { s.Book.Leases[7].At = addrOfText(t, "2001:db8::1") }, "- lease 2001:db8:: ann 2 80, + lease 2001:db8::1 ann 2 80"},
		{"a lease's token", func(s *impl.State) { s.Book.Leases[0].Token = 9 }, "- lease 10.0.0.0 ann 3 60, + lease 10.0.0.0 ann 9 60"},
		{"a lease's end", func(s *impl.State) { s.Book.Leases[0].Until = 61 }, "- lease 10.0.0.0 ann 3 60, + lease 10.0.0.0 ann 3 61"},
		{"leases change tokens", func(s *impl.State) { s.Book.Leases[0].Token, s.Book.Leases[2].Token = 1, 3 },
			"- lease 10.0.0.0 ann 3 60, - lease 10.0.0.65 bob 1 40, + lease 10.0.0.0 ann 1 60, + lease 10.0.0.65 bob 3 40"},
		{"a session gone", func(s *impl.State) { s.Desk.Sessions = slices.Delete(s.Desk.Sessions, 1, 2) }, "- session 4 0 45"},
		{"a session more", func(s *impl.State) {
			s.Desk.Sessions = slices.Insert(s.Desk.Sessions, 1, impl.Session{Id: 3, Last: 1, Reply: "r", Until: 7})
		}, "+ session 3 1 7"},
		{"a session's Id", func(s *impl.State) { s.Desk.Sessions[0].Id = 1 }, "- session 2 3 100, + session 1 3 100"},
		{"a session's Last", func(s *impl.State) { s.Desk.Sessions[0].Last = 4 }, "- session 2 3 100, + session 2 4 100"},
		{"a session's end", func(s *impl.State) { s.Desk.Sessions[0].Until = 0 }, "- session 2 3 100, + session 2 3 0"},
		{"a session's reply", func(s *impl.State) { s.Desk.Sessions[0].Reply = "another" }, ""},
		{"all replies", func(s *impl.State) { s.Desk = withoutReplies(s.Desk) }, ""},
		{"a reply and an end", func(s *impl.State) { s.Desk.Sessions[2].Reply, s.Desk.Sessions[2].Until = "", 998 }, "- session 6 1 999, + session 6 1 998"},
		{"the token", func(s *impl.State) { s.Book.Token = 10 }, "- token 9, + token 10"},
		{"the time", func(s *impl.State) { s.Book.Now = 0 }, "- now 30, + now 0"},
		{"the next Id", func(s *impl.State) { s.Desk.Next = lastNext }, "- next 9, + next 1000000"},
		{"the count", func(s *impl.State) { s.Count = math.MaxInt }, "- count 70, + count 9223372036854775807"},
		{"one of each sort", func(s *impl.State) {
			s.Count, s.Desk.Next, s.Book.Now, s.Book.Token = 71, 10, 31, 12
			s.Desk.Sessions[3].Until = 1
			s.Book.Leases[2].Until = 41
			s.Plan = withPool(carved(t, s.Plan, "10.0.0.192/26=c"), poolOfText(t, "9.0.0.0/8>8"))
		}, "+ pool 9.0.0.0/8 8, + block 10.0.0.192/26 c, - lease 10.0.0.65 bob 1 40, + lease 10.0.0.65 bob 1 41, - session 8 1000000 999, + session 8 1000000 1, - token 9, + token 12, - now 30, + now 31, - next 9, + next 10, - count 70, + count 71"},
	} {
		a, b := plainState(t), plainState(t)
		c.do(&b)
		if !stateRight(b) {
			t.Fatal("not right:", c.name)
		}
		checkPair(t, a, b)
		if got := strings.Join(impl.StateDiff(a, b), ", "); got != c.want {
			t.Errorf("%s: %q, not %q", c.name, got, c.want)
		}
		if same := impl.SameState(a, b); same != (c.name == "nothing") {
			t.Error(c.name, same)
		}
	}
}

func carved(t *testing.T, p impl.Plan, block string) impl.Plan {
	t.Helper()
	return withBlock(p, planOfTexts(t, "", block).Blocks[0])
}

// Of all against nothing each row has a line, in its list's order, first those of the one, then those of the other.
func TestStateDiffOfAllAndNothing(t *testing.T) {
	const want = "- pool 10.0.0.0/24 26, - pool 10.0.1.0/29 30, - pool 10.0.2.0/24 25, - pool 2001:db8::/32 48, " +
		"- block 10.0.0.0/26 ann, - block 10.0.0.64/26 bob, - block 10.0.1.0/30 ann, - block 10.0.2.0/25 bob, - block 10.0.2.128/25 ann, - block 2001:db8::/48 ann, " +
		"- lease 10.0.0.0 ann 3 60, - lease 10.0.0.2 ann 4 900, - lease 10.0.0.65 bob 1 40, - lease 10.0.1.0 ann 5 700, - lease 10.0.1.1 ann 6 700, - lease 10.0.1.2 ann 7 700, - lease 10.0.1.3 ann 8 700, - lease 2001:db8:: ann 2 80, " +
		"- session 2 3 100, - session 4 0 45, - session 6 1 999, - session 8 1000000 999, " +
		"- token 9, + token 0, - now 30, + now 0, - next 9, + next 1, - count 70, + count 0"
	plain := plainState(t)
	if got := strings.Join(impl.StateDiff(plain, impl.StateNew()), ", "); got != want {
		t.Errorf("%q", got)
	}
	other := smallState(t)
	const both = "- pool 10.0.1.0/29 30, - pool 10.0.2.0/24 25, - pool 2001:db8::/32 48, " +
		"- block 10.0.0.0/26 ann, - block 10.0.1.0/30 ann, - block 10.0.2.0/25 bob, - block 10.0.2.128/25 ann, - block 2001:db8::/48 ann, " +
		"- lease 10.0.0.0 ann 3 60, - lease 10.0.0.2 ann 4 900, - lease 10.0.0.65 bob 1 40, - lease 10.0.1.0 ann 5 700, - lease 10.0.1.1 ann 6 700, - lease 10.0.1.2 ann 7 700, - lease 10.0.1.3 ann 8 700, - lease 2001:db8:: ann 2 80, + lease 10.0.0.65 bob 3 2000, " +
		"- session 2 3 100, - session 4 0 45, - session 6 1 999, - session 8 1000000 999, + session 2 3 500, " +
		"- token 9, + token 5, - now 30, + now 1000, - next 9, + next 7, - count 70, + count 300"
	if got := strings.Join(impl.StateDiff(plain, other), ", "); got != both {
		t.Errorf("%q", got)
	}
	for _, a := range rightStates(t) {
		for _, b := range rightStates(t) {
			checkPair(t, a, b)
		}
	}
}

// States that commands come to come back of their bytes, and are told apart from those ahead of them.
func TestStatesOnTheirWayComeBack(t *testing.T) {
	seen := map[string]int{}
	for seed := range 12 {
		w := newStateWalker(5000+seed, map[string]int{})
		if seed%4 == 3 {
			w.now, w.state.Book.Token = lastTime-2000, lastToken-80
		}
		before := []impl.State{w.state}
		for range 200 {
			w.state, _ = impl.Step(w.state, w.someCommand())
			if !checkImage(t, w.state) {
				t.Fatal("not right:", w.state)
			}
			checkPair(t, before[len(before)-1], w.state)
			checkPair(t, pickedOf(w.chance, before...), w.state)
			for _, line := range impl.StateDiff(before[len(before)-1], w.state) {
				seen[strings.Join(strings.Fields(line)[:2], " ")]++
			}
			before = append(before, w.state)
		}
	}
	for _, s := range []string{"- pool", "+ pool", "- block", "+ block", "- lease", "+ lease", "- session", "+ session", "- token", "+ token", "- now", "+ now", "- next", "+ next", "- count", "+ count"} {
		if seen[s] < 10 {
			t.Errorf("hardly ever seen: %s: %d", s, seen[s])
		}
	}
}

// What came back of bytes goes on as the state itself does.
func TestStatesThatCameBackGoOn(t *testing.T) {
	for _, c := range kindLines(t) {
		s := plainState(t)
		back, ok := impl.GetState(impl.PutState(s))
		a, told := impl.Step(s, c)
		b, again := checkStep(t, back, c)
		if !ok || told != again || !impl.SameState(a, b) || impl.StateSum(a) != impl.StateSum(b) || len(impl.StateDiff(a, b)) != 0 {
			t.Error(textAny(c), told, again)
		}
	}
}

// What was answered stays, whatever happens to what was handed in and to other answers.
func TestImagesStayApart(t *testing.T) {
	given := plainState(t)
	b, lines := impl.PutState(given), impl.StateDiff(given, impl.StateNew())
	kept, told := slices.Clone(b), slices.Clone(lines)
	s, _ := impl.GetState(b)
	other, _ := impl.GetState(b)
	scribbleState(given)
	scribbleState(other)
	if !bytes.Equal(b, kept) || !slices.Equal(lines, told) || !isSameState(s, plainState(t)) {
		t.Error("changed with what was handed in:", b, lines, s)
	}
	clear(b[:cap(b)])
	if !isSameState(s, plainState(t)) {
		t.Error("changed with its bytes:", s)
	}
}
