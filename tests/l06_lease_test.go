package tests

import (
	"fmt"
	"math"
	"math/rand"
	"net/netip"
	"slices"
	"strconv"
	"strings"
	"testing"

	"loop.example/g00113/impl"
)

const (
	mostLeases = 80
	mostSpan   = 1000
	lastTime   = 1000000000
	lastToken  = 1000000000
)

func isAddr(a impl.Addr) bool {
	return isPrefix(impl.Prefix{At: a, Bits: widthOf(a.Six)})
}

// isAhead is the order of right addresses: those of 32 bits first, then by their numbers.
func isAhead(a impl.Addr, b impl.Addr) bool {
	if a.Six != b.Six {
		return b.Six
	}
	return numberOf(a).Cmp(numberOf(b)) < 0
}

func isWithin(n int, least int, most int) bool {
	return n >= least && n <= most
}

// bookRight says of a book what the document does, one thing after the other, and looks at every two leases.
func bookRight(b impl.Book) bool {
	if len(b.Leases) > mostLeases || !isWithin(b.Token, 0, lastToken) || !isWithin(b.Now, 0, lastTime) {
		return false
	}
	for i, l := range b.Leases {
		if !isAddr(l.At) || !ownerForm.MatchString(l.Owner) || !isWithin(l.Token, 1, b.Token) || l.Until <= b.Now || l.Until > lastTime {
			return false
		}
		for _, k := range b.Leases[:i] {
			if !isAhead(k.At, l.At) || k.Token == l.Token {
				return false
			}
		}
	}
	return true
}

func cloneBook(b impl.Book) impl.Book {
	b.Leases = slices.Clone(b.Leases)
	return b
}

// sameBook takes a list without elements and nil for the same.
func sameBook(a impl.Book, b impl.Book) bool {
	return slices.Equal(a.Leases, b.Leases) && a.Token == b.Token && a.Now == b.Now
}

func leaseOf(b impl.Book, at impl.Addr) (impl.Lease, bool) {
	for _, l := range b.Leases {
		if l.At == at {
			return l, true
		}
	}
	return impl.Lease{}, false
}

func withLease(b impl.Book, l impl.Lease) impl.Book {
	b = cloneBook(b)
	place := 0
	for place < len(b.Leases) && isAhead(b.Leases[place].At, l.At) {
		place++
	}
	b.Leases = slices.Insert(b.Leases, place, l)
	return b
}

func withoutLease(b impl.Book, at impl.Addr) impl.Book {
	b = cloneBook(b)
	b.Leases = slices.DeleteFunc(b.Leases, func(l impl.Lease) bool { return l.At == at })
	return b
}

func spanRight(b impl.Book, span int) bool {
	return isWithin(span, 1, mostSpan) && span <= lastTime-b.Now
}

func grantWanted(b impl.Book, at impl.Addr, owner string, span int) (impl.Book, int, int) {
	if !bookRight(b) || !isAddr(at) || !ownerForm.MatchString(owner) || !spanRight(b, span) || b.Token == lastToken {
		return b, 0, impl.LeaseForm
	}
	if _, held := leaseOf(b, at); held {
		return b, 0, impl.LeaseHeld
	}
	if len(b.Leases) == mostLeases {
		return b, 0, impl.LeaseMany
	}
	token := b.Token + 1
	b = withLease(b, impl.Lease{At: at, Owner: owner, Token: token, Until: b.Now + span})
	b.Token = token
	return b, token, impl.LeaseGood
}

// heldWanted is what is told of the lease of at to who comes with this token.
func heldWanted(b impl.Book, at impl.Addr, token int) (impl.Lease, int) {
	if !bookRight(b) || !isAddr(at) {
		return impl.Lease{}, impl.LeaseForm
	}
	l, held := leaseOf(b, at)
	switch {
	case !held:
		return impl.Lease{}, impl.LeaseNone
	case l.Token != token:
		return impl.Lease{}, impl.LeaseFenced
	}
	return l, impl.LeaseGood
}

func renewWanted(b impl.Book, at impl.Addr, token int, span int) (impl.Book, int) {
	l, code := heldWanted(b, at, token)
	if code == impl.LeaseForm || !spanRight(b, span) {
		return b, impl.LeaseForm
	}
	if code == impl.LeaseGood && b.Now+span > l.Until {
		b = withoutLease(b, at)
		l.Until = b.Now + span
		b = withLease(b, l)
	}
	return b, code
}

func releaseWanted(b impl.Book, at impl.Addr, token int) (impl.Book, int) {
	_, code := heldWanted(b, at, token)
	if code == impl.LeaseGood {
		b = withoutLease(b, at)
	}
	return b, code
}

func advanceWanted(b impl.Book, now int) (impl.Book, []impl.Addr) {
	gone := []impl.Addr{}
	if !bookRight(b) || !isWithin(now, b.Now+1, lastTime) {
		return b, gone
	}
	for _, l := range b.Leases {
		if l.Until <= now {
			gone = append(gone, l.At)
		}
	}
	for _, at := range gone {
		b = withoutLease(b, at)
	}
	b.Now = now
	return b, gone
}

// leasesBehind stand in the spare room of lists that are handed in: read as theirs they would make each of them wrong.
func leasesBehind() []impl.Lease {
	return []impl.Lease{{At: narrow(-7), Owner: "Behind!", Token: -1}, {At: narrow(3), Owner: "behind", Token: 1, Until: 1}}
}

// scribbleBook writes into all of a book's memory, its spare room too.
func scribbleBook(b impl.Book) {
	for i := range b.Leases[:cap(b.Leases)] {
		b.Leases[:cap(b.Leases)][i] = impl.Lease{Owner: "Scribble!", Token: -i}
	}
}

// askedBook hands b in with spare room behind its leases, and fails if the call changes them or the room, or answers any of their memory.
func askedBook(t *testing.T, b impl.Book, call func(impl.Book) impl.Book) impl.Book {
	t.Helper()
	room := slices.Concat(b.Leases, leasesBehind())
	kept := slices.Clone(room)
	given := b
	given.Leases = room[:len(b.Leases)]
	answer := call(given)
	if !slices.Equal(room, kept) {
		t.Fatalf("the book %v was changed, or what stands behind: %v", b, room)
	}
	copied := cloneBook(answer)
	scribbleBook(answer)
	if !slices.Equal(room, kept) {
		t.Fatalf("what was answered for %v has its memory", b)
	}
	return copied
}

func checkGrant(t *testing.T, b impl.Book, at impl.Addr, owner string, span int) (impl.Book, int, int) {
	t.Helper()
	token, code := -1, -1
	got := askedBook(t, b, func(c impl.Book) (answer impl.Book) {
		answer, token, code = impl.Grant(c, at, owner, span)
		return answer
	})
	if want, n, c := grantWanted(b, at, owner, span); code != c || token != n || !sameBook(got, want) {
		t.Fatalf("Grant(%v, %v, %q, %d) = %v, %d, %d, not %v, %d, %d", b, at, owner, span, got, token, code, want, n, c)
	}
	return got, token, code
}

func checkRenew(t *testing.T, b impl.Book, at impl.Addr, token int, span int) (impl.Book, int) {
	t.Helper()
	code := -1
	got := askedBook(t, b, func(c impl.Book) (answer impl.Book) {
		answer, code = impl.Renew(c, at, token, span)
		return answer
	})
	if want, c := renewWanted(b, at, token, span); code != c || !sameBook(got, want) {
		t.Fatalf("Renew(%v, %v, %d, %d) = %v, %d, not %v, %d", b, at, token, span, got, code, want, c)
	}
	return got, code
}

func checkRelease(t *testing.T, b impl.Book, at impl.Addr, token int) (impl.Book, int) {
	t.Helper()
	code := -1
	got := askedBook(t, b, func(c impl.Book) (answer impl.Book) {
		answer, code = impl.Release(c, at, token)
		return answer
	})
	if want, c := releaseWanted(b, at, token); code != c || !sameBook(got, want) {
		t.Fatalf("Release(%v, %v, %d) = %v, %d, not %v, %d", b, at, token, got, code, want, c)
	}
	return got, code
}

func checkAdvance(t *testing.T, b impl.Book, now int) (impl.Book, []impl.Addr) {
	t.Helper()
	gone := []impl.Addr{}
	got := askedBook(t, b, func(c impl.Book) (answer impl.Book) {
		answer, gone = impl.Advance(c, now)
		return answer
	})
	if want, list := advanceWanted(b, now); !slices.Equal(gone, list) || !sameBook(got, want) {
		t.Fatalf("Advance(%v, %d) = %v, %v, not %v, %v", b, now, got, gone, want, list)
	}
	return got, gone
}

func checkHolder(t *testing.T, b impl.Book, at impl.Addr, token int) (string, int) {
	t.Helper()
	owner, code := "", -1
	askedBook(t, b, func(c impl.Book) impl.Book {
		owner, code = impl.Holder(c, at, token)
		return impl.Book{}
	})
	if l, c := heldWanted(b, at, token); code != c || owner != l.Owner {
		t.Fatalf("Holder(%v, %v, %d) = %q, %d, not %q, %d", b, at, token, owner, code, l.Owner, c)
	}
	return owner, code
}

func checkBook(t *testing.T, b impl.Book) bool {
	t.Helper()
	ok := false
	askedBook(t, b, func(c impl.Book) impl.Book {
		ok = impl.BookOk(c)
		return impl.Book{}
	})
	if ok != bookRight(b) {
		t.Fatalf("BookOk(%v) = %v", b, ok)
	}
	return ok
}

func addrOfText(t *testing.T, s string) impl.Addr {
	t.Helper()
	n, err := netip.ParseAddr(s)
	if err != nil {
		t.Fatal("no address:", s)
	}
	return prefixOfText(t, netip.PrefixFrom(n, n.BitLen()).String()).At
}

// bookOfTexts reads leases, each an address, `=`, its owner, its token and its end with `,` between, as they stand.
func bookOfTexts(t *testing.T, leases string, token int, now int) impl.Book {
	t.Helper()
	b := impl.Book{Token: token, Now: now}
	for _, s := range strings.Fields(leases) {
		at, rest, _ := strings.Cut(s, "=")
		parts := strings.Split(rest, ",")
		if len(parts) != 3 {
			t.Fatal("no lease:", s)
		}
		n, noToken := strconv.Atoi(parts[1])
		until, noUntil := strconv.Atoi(parts[2])
		if noToken != nil || noUntil != nil {
			t.Fatal("no lease:", s)
		}
		b.Leases = append(b.Leases, impl.Lease{At: addrOfText(t, at), Owner: parts[0], Token: n, Until: until})
	}
	return b
}

// bookTexts writes the leases alone.
func bookTexts(b impl.Book) string {
	texts := []string{}
	for _, l := range b.Leases {
		texts = append(texts, fmt.Sprintf("%s=%s,%d,%d", netText(netOf(l.At)), l.Owner, l.Token, l.Until))
	}
	return strings.Join(texts, " ")
}

// leasesOf is a book of so many leases of both widths, with gaps between them; their tokens fall, each ends at a time of its own.
func leasesOf(count int) impl.Book {
	b := impl.Book{Token: count + 5, Now: 100}
	for i := range count {
		at := narrow(2*i + 1)
		if i >= count/2 {
			at = wide(i<<55, 7)
		}
		b.Leases = append(b.Leases, impl.Lease{At: at, Owner: "own-" + strconv.Itoa(i%7), Token: count - i, Until: 101 + i*7%200})
	}
	return b
}

func TestLeaseConstants(t *testing.T) {
	if impl.MaxLeases != mostLeases || impl.MaxSpan != mostSpan || impl.MaxTime != lastTime || impl.MaxToken != lastToken {
		t.Error(impl.MaxLeases, impl.MaxSpan, impl.MaxTime, impl.MaxToken)
	}
	codes := []int{impl.LeaseGood, impl.LeaseForm, impl.LeaseHeld, impl.LeaseMany, impl.LeaseNone, impl.LeaseFenced}
	if !slices.Equal(codes, []int{0, 10, 11, 12, 13, 14}) {
		t.Error(codes)
	}
}

func TestBookOkTable(t *testing.T) {
	for _, c := range []struct {
		leases     string
		token, now int
		want       bool
	}{
		{"", 0, 0, true},
		{"", 7, 9, true},
		{"10.0.0.1=ann,1,11", 1, 10, true},
		{"10.0.0.1=ann,1,20 10.0.0.2=bob,2,11", 2, 10, true},
		{"10.0.0.1=ann,2,20 10.0.0.2=ann,1,20", 5, 10, true},
		{"0.0.0.0=a,3,1000 255.255.255.255=b,1,1000 ::=c,2,1000 ffff:ffff:ffff:ffff:ffff:ffff:ffff:ffff=d,9,1", 9, 0, true},
		{"0.0.0.1=a,1,9 ::1=a,2,9", 2, 0, true},
		{"7fff::=a,1,9 8000::=a,2,9", 2, 0, true},
		{"::7fff:ffff:ffff:ffff=a,1,9 ::8000:0:0:0=a,2,9", 2, 0, true},
		// Token and Now at their bounds, and outside.
		{"", lastToken, lastTime, true},
		{"", lastToken - 1, lastTime - 1, true},
		{"", lastToken + 1, 0, false},
		{"", math.MaxInt, 0, false},
		{"", -1, 0, false},
		{"", math.MinInt, 0, false},
		{"", 0, lastTime + 1, false},
		{"", 0, math.MaxInt, false},
		{"", 0, -1, false},
		{"", 0, math.MinInt, false},
		{"10.0.0.1=ann,1,5", 1, -1, false},
		{"10.0.0.1=ann,1,5", lastToken + 1, 0, false},
		// Leases that do not ascend, or come twice.
		{"10.0.0.2=ann,1,20 10.0.0.1=bob,2,20", 2, 10, false},
		{"10.0.0.1=ann,1,20 10.0.0.1=bob,2,20", 2, 10, false},
		{"10.0.0.1=ann,1,20 10.0.0.3=bob,2,20 10.0.0.2=bob,3,20", 3, 10, false},
		{"10.0.0.1=ann,1,20 10.0.0.3=bob,2,20 10.0.0.1=bob,3,20", 3, 10, false},
		{"::1=ann,1,20 10.0.0.1=bob,2,20", 2, 10, false},
		{"::=ann,1,20 255.255.255.255=bob,2,20", 2, 10, false},
		{"::1=ann,1,20 ::1=bob,2,20", 2, 10, false},
		{"8000::=a,1,9 7fff::=a,2,9", 2, 0, false},
		{"::8000:0:0:0=a,1,9 ::7fff:ffff:ffff:ffff=a,2,9", 2, 0, false},
		// Owners.
		{"10.0.0.1=,1,20", 1, 10, false},
		{"10.0.0.1=Ann,1,20", 1, 10, false},
		{"10.0.0.1=a_b,1,20", 1, 10, false},
		{"10.0.0.1=abcdefghijkl,1,20", 1, 10, true},
		{"10.0.0.1=abcdefghijklm,1,20", 1, 10, false},
		{"10.0.0.1=ann,1,20 10.0.0.2=,2,20", 2, 10, false},
		// Tokens that are none, above the book's, or two alike, wherever they stand.
		{"10.0.0.1=ann,0,20", 1, 10, false},
		{"10.0.0.1=ann,0,20", 0, 10, false},
		{"10.0.0.1=ann,-1,20", 1, 10, false},
		{"10.0.0.1=ann,2,20", 1, 10, false},
		{"10.0.0.1=ann,1,20", 0, 10, false},
		{"10.0.0.1=ann,1000000000,20", lastToken, 10, true},
		{"10.0.0.1=ann,1000000000,20", lastToken - 1, 10, false},
		{"10.0.0.1=ann,1000000001,20", lastToken, 10, false},
		{"10.0.0.1=ann,1,20 10.0.0.2=bob,1,20", 2, 10, false},
		{"10.0.0.1=ann,1,20 10.0.0.2=bob,2,20 10.0.0.3=c,1,20", 3, 10, false},
		{"10.0.0.1=ann,3,20 10.0.0.2=bob,2,20 ::3=c,3,20", 3, 10, false},
		{"10.0.0.1=ann,1,20 10.0.0.2=bob,2,20 10.0.0.3=c,2,20", 3, 10, false},
		{"10.0.0.1=ann,1,20 10.0.0.2=bob,3,20 10.0.0.3=c,2,20", 3, 10, true},
		// Ends that are not above Now, or above MaxTime.
		{"10.0.0.1=ann,1,10", 1, 10, false},
		{"10.0.0.1=ann,1,9", 1, 10, false},
		{"10.0.0.1=ann,1,-1", 1, 10, false},
		{"10.0.0.1=ann,1,0", 1, 0, false},
		{"10.0.0.1=ann,1,1", 1, 0, true},
		{"10.0.0.1=ann,1,1000000000", 1, 0, true},
		{"10.0.0.1=ann,1,1000000001", 1, 0, false},
		{"10.0.0.1=ann,1,1000000000", 1, lastTime - 1, true},
		{"10.0.0.1=ann,1,1000000000", 1, lastTime, false},
		{"10.0.0.1=ann,1,1000000001", 1, lastTime, false},
		{"10.0.0.1=ann,1,9223372036854775807", 1, 0, false},
		{"10.0.0.1=ann,1,-9223372036854775808", 1, 0, false},
		{"10.0.0.1=ann,1,20 10.0.0.2=bob,2,10", 2, 10, false},
		{"10.0.0.1=ann,1,10 10.0.0.2=bob,2,20", 2, 10, false},
	} {
		b := bookOfTexts(t, c.leases, c.token, c.now)
		if got := checkBook(t, b); got != c.want {
			t.Errorf("BookOk(%s; %d, %d) = %v", c.leases, c.token, c.now, got)
		}
	}
}

// Each field of each lease of a long book, at and around its bounds, and with the values that another lease has.
func TestBookOkEachField(t *testing.T) {
	b := leasesOf(20)
	if !checkBook(t, b) {
		t.Fatal("not right:", b)
	}
	counts := map[bool]int{}
	for place := range b.Leases {
		look := func(change func(*impl.Lease)) {
			c := cloneBook(b)
			change(&c.Leases[place])
			counts[checkBook(t, c)]++
		}
		for _, token := range append([]int{math.MinInt, math.MinInt + 1, -1, 0, 26, 1 << 32, lastToken, lastToken + 1, math.MaxInt}, upTo(25)...) {
			look(func(l *impl.Lease) { l.Token = token })
		}
		for _, until := range []int{math.MinInt, -1, 0, 1, 99, 100, 101, 102, lastTime - 1, lastTime, lastTime + 1, 1 << 32, math.MaxInt} {
			look(func(l *impl.Lease) { l.Until = until })
		}
		for _, owner := range []string{"", "a", "abcdefghijkl", "abcdefghijklm", "Ann", "a b", "-", "ä"} {
			look(func(l *impl.Lease) { l.Owner = owner })
		}
		for _, at := range slices.Concat(wrongAddrs(), risingAddrs(), []impl.Addr{b.Leases[0].At, b.Leases[19].At, narrow(2 * place), narrow(2*place + 2), wide(place<<55, 6), wide(place<<55, 8)}) {
			look(func(l *impl.Lease) { l.At = at })
		}
	}
	if counts[true] < 200 || counts[false] < 1000 {
		t.Error("the books are too much alike:", counts)
	}
}

// upTo are the numbers 1 to n.
func upTo(n int) []int {
	list := []int{}
	for i := range n {
		list = append(list, i+1)
	}
	return list
}

// Every row of three leases of few addresses, tokens and ends.
func TestBookOkEveryRow(t *testing.T) {
	kinds := []impl.Lease{}
	for _, at := range []impl.Addr{narrow(1), narrow(2), wide(0, 1), narrow(-1)} {
		for _, token := range []int{0, 1, 2, 3} {
			kinds = append(kinds, impl.Lease{At: at, Owner: "ann", Token: token, Until: 5})
		}
	}
	kinds = append(kinds, impl.Lease{At: narrow(1), Owner: "ann", Token: 1, Until: 4}, impl.Lease{At: wide(0, 1), Owner: "", Token: 2, Until: 5})
	counts := map[bool]int{}
	for _, x := range kinds {
		for _, y := range kinds {
			for _, z := range kinds {
				for _, token := range []int{0, 2, 3} {
					b := impl.Book{Leases: []impl.Lease{x, y, z}, Token: token, Now: 4}
					counts[checkBook(t, b)]++
					b.Leases = b.Leases[:2]
					counts[checkBook(t, b)]++
				}
			}
		}
	}
	if counts[true] < 20 || counts[false] < 1000 {
		t.Error("the rows are too much alike:", counts)
	}
}

// MaxLeases leases are right, one less too, one more is not.
func TestBookOkMost(t *testing.T) {
	for count, want := range map[int]bool{0: true, 1: true, mostLeases - 1: true, mostLeases: true, mostLeases + 1: false, 300: false} {
		if got := checkBook(t, leasesOf(count)); got != want {
			t.Errorf("BookOk of %d leases is %v", count, got)
		}
	}
	long := leasesOf(mostLeases)
	last := impl.Lease{At: wide(-1, -1), Owner: "last", Token: mostLeases + 1, Until: 101}
	if long = withLease(long, last); checkBook(t, long) {
		t.Error("right with one more")
	}
	if long = withoutLease(long, narrow(1)); !checkBook(t, long) {
		t.Error("wrong with as many as may be")
	}
	long.Leases[mostLeases-1].Until = 100
	if checkBook(t, long) {
		t.Error("right with a last lease that has ended")
	}
}

func TestGrantTable(t *testing.T) {
	three := "10.0.0.1=ann,4,50 10.0.0.9=bob,7,11 2001:db8::5=ann,2,900"
	for _, c := range []struct {
		at, owner string
		span      int
		code      int
		want      string
	}{
		// Ahead of, between and behind those that are there.
		{"10.0.0.0", "c", 1, impl.LeaseGood, "10.0.0.0=c,8,11 " + three},
		{"0.0.0.0", "c", 1000, impl.LeaseGood, "0.0.0.0=c,8,1010 " + three},
		{"10.0.0.2", "ann", 20, impl.LeaseGood, "10.0.0.1=ann,4,50 10.0.0.2=ann,8,30 10.0.0.9=bob,7,11 2001:db8::5=ann,2,900"},
		{"10.0.0.8", "bob", 2, impl.LeaseGood, "10.0.0.1=ann,4,50 10.0.0.8=bob,8,12 10.0.0.9=bob,7,11 2001:db8::5=ann,2,900"},
		{"10.0.0.10", "c", 5, impl.LeaseGood, "10.0.0.1=ann,4,50 10.0.0.9=bob,7,11 10.0.0.10=c,8,15 2001:db8::5=ann,2,900"},
		{"255.255.255.255", "c", 5, impl.LeaseGood, "10.0.0.1=ann,4,50 10.0.0.9=bob,7,11 255.255.255.255=c,8,15 2001:db8::5=ann,2,900"},
		{"::", "c", 5, impl.LeaseGood, "10.0.0.1=ann,4,50 10.0.0.9=bob,7,11 ::=c,8,15 2001:db8::5=ann,2,900"},
		{"2001:db8::4", "c", 5, impl.LeaseGood, "10.0.0.1=ann,4,50 10.0.0.9=bob,7,11 2001:db8::4=c,8,15 2001:db8::5=ann,2,900"},
		{"2001:db8::6", "c", 5, impl.LeaseGood, three + " 2001:db8::6=c,8,15"},
		{"8000::", "abcdefghijkl", 5, impl.LeaseGood, three + " 8000::=abcdefghijkl,8,15"},
		{"ffff:ffff:ffff:ffff:ffff:ffff:ffff:ffff", "-", 5, impl.LeaseGood, three + " ffff:ffff:ffff:ffff:ffff:ffff:ffff:ffff=-,8,15"},
		// It is leased, to this owner or another one.
		{"10.0.0.1", "ann", 5, impl.LeaseHeld, three},
		{"10.0.0.1", "bob", 5, impl.LeaseHeld, three},
		{"10.0.0.9", "c", 1000, impl.LeaseHeld, three},
		{"2001:db8::5", "ann", 1, impl.LeaseHeld, three},
		// A span or an owner that is none, also where it is leased.
		{"10.0.0.2", "c", 0, impl.LeaseForm, three},
		{"10.0.0.2", "c", -1, impl.LeaseForm, three},
		{"10.0.0.2", "c", 1001, impl.LeaseForm, three},
		{"10.0.0.2", "c", math.MaxInt, impl.LeaseForm, three},
		{"10.0.0.2", "c", math.MinInt, impl.LeaseForm, three},
		{"10.0.0.2", "", 5, impl.LeaseForm, three},
		{"10.0.0.2", "Ann", 5, impl.LeaseForm, three},
		{"10.0.0.2", "abcdefghijklm", 5, impl.LeaseForm, three},
		{"10.0.0.1", "ann", 0, impl.LeaseForm, three},
		{"10.0.0.1", "ann", 1001, impl.LeaseForm, three},
		{"10.0.0.1", "", 5, impl.LeaseForm, three},
	} {
		got, token, code := checkGrant(t, bookOfTexts(t, three, 7, 10), addrOfText(t, c.at), c.owner, c.span)
		given := 0
		if c.code == impl.LeaseGood {
			given = 8
		}
		if code != c.code || token != given || bookTexts(got) != c.want || got.Token != 7+given/8 || got.Now != 10 {
			t.Errorf("Grant(.., %s, %q, %d) = %s, %d, %d, not %s, %d", c.at, c.owner, c.span, bookTexts(got), token, code, c.want, c.code)
		}
	}
	got, token, code := checkGrant(t, impl.Book{}, impl.Addr{}, "a", 1)
	if code != impl.LeaseGood || token != 1 || bookTexts(got) != "0.0.0.0=a,1,1" || got.Token != 1 || got.Now != 0 {
		t.Error("of an empty book:", got, token, code)
	}
}

// Addresses whose numbers are alike in both widths are two.
func TestLeasesOfBothWidths(t *testing.T) {
	b, _, code := checkGrant(t, impl.Book{}, wide(0, 5), "six", 9)
	if code != impl.LeaseGood {
		t.Fatal(code)
	}
	if b, _, code = checkGrant(t, b, narrow(5), "four", 9); code != impl.LeaseGood || bookTexts(b) != "0.0.0.5=four,2,9 ::5=six,1,9" {
		t.Fatal(bookTexts(b), code)
	}
	if owner, code := checkHolder(t, b, narrow(5), 2); owner != "four" || code != impl.LeaseGood {
		t.Error(owner, code)
	}
	if owner, code := checkHolder(t, b, wide(0, 5), 2); owner != "" || code != impl.LeaseFenced {
		t.Error(owner, code)
	}
	if _, code := checkRelease(t, b, wide(5, 0), 1); code != impl.LeaseNone {
		t.Error(code)
	}
	if b, code = checkRelease(t, b, wide(0, 5), 1); code != impl.LeaseGood || bookTexts(b) != "0.0.0.5=four,2,9" {
		t.Error(bookTexts(b), code)
	}
	if _, code := checkRenew(t, b, wide(0, 5), 2, 20); code != impl.LeaseNone {
		t.Error(code)
	}
}

// Spans of 1 to MaxSpan end at MaxTime at the latest: for a grant, and for a lease that is renewed.
func TestSpansAtTheirBounds(t *testing.T) {
	spans := []int{math.MinInt, math.MinInt + 1, -1000, -1, 0, 1, 2, 499, 500, 501, 998, 999, 1000, 1001, 1002, 1 << 32, lastTime, math.MaxInt - lastTime, math.MaxInt}
	good, form := 0, 0
	for _, now := range []int{0, 1, 10, lastTime - 1002, lastTime - 1001, lastTime - 1000, lastTime - 999, lastTime - 500, lastTime - 2, lastTime - 1, lastTime} {
		for _, span := range spans {
			b := impl.Book{Token: 3, Now: now}
			want := impl.LeaseForm
			if span >= 1 && span <= 1000 && now+span <= 1000000000 {
				want = impl.LeaseGood
			}
			got, _, code := checkGrant(t, b, narrow(7), "ann", span)
			if code != want || code == impl.LeaseGood && got.Leases[0].Until != now+span {
				t.Errorf("at %d, for %d: %v, %d", now, span, got, code)
			}
			if code == impl.LeaseGood {
				good++
			} else {
				form++
			}
			if now == lastTime {
				continue
			}
			b.Leases = []impl.Lease{{At: narrow(7), Owner: "ann", Token: 2, Until: now + 1}}
			got, code = checkRenew(t, b, narrow(7), 2, span)
			if code != want || code == impl.LeaseGood && got.Leases[0].Until != now+span {
				t.Errorf("renewed at %d, for %d: %v, %d", now, span, got, code)
			}
		}
	}
	if good < 30 || form < 30 {
		t.Error("the spans are too much alike:", good, form)
	}
}

// The last token is given once; then nothing is granted any more, but what is held goes on.
func TestTokenAtItsBound(t *testing.T) {
	b := bookOfTexts(t, "10.0.0.1=ann,5,20", lastToken-2, 10)
	for i, want := range []int{lastToken - 1, lastToken} {
		c, token, code := checkGrant(t, b, narrow(i), "bob", 1000)
		if token != want || code != impl.LeaseGood || c.Token != want || !checkBook(t, c) {
			t.Fatal(token, code, c)
		}
		b = c
	}
	for _, at := range []impl.Addr{narrow(0), narrow(9), wide(0, 0), addrOfText(t, "10.0.0.1")} {
		if c, token, code := checkGrant(t, b, at, "bob", 1); token != 0 || code != impl.LeaseForm || !sameBook(c, b) {
			t.Error(token, code, c)
		}
	}
	c, code := checkRenew(t, b, narrow(1), lastToken, 1000)
	if code != impl.LeaseGood {
		t.Error("renew:", code)
	}
	if c, gone := checkAdvance(t, c, 20); len(gone) != 1 || c.Token != lastToken {
		t.Error("advance:", gone, c)
	}
	if c, code = checkRelease(t, c, narrow(1), lastToken); code != impl.LeaseGood || c.Token != lastToken {
		t.Error("release:", code, c)
	}
	if _, _, code = checkGrant(t, c, narrow(1), "bob", 1); code != impl.LeaseForm {
		t.Error("grant again:", code)
	}
	for _, token := range []int{-1, lastToken + 1, math.MinInt, math.MaxInt} {
		b := impl.Book{Token: token}
		if c, n, code := checkGrant(t, b, narrow(1), "bob", 1); code != impl.LeaseForm || n != 0 || !sameBook(c, b) {
			t.Error("out of its bounds:", c, n, code)
		}
	}
}

// Eighty leases granted in any order stand in the same one, and the next is one too many: behind being held, behind not being right.
func TestGrantMost(t *testing.T) {
	chance := rand.New(rand.NewSource(61))
	all := leasesOf(mostLeases + 1).Leases
	for range 20 {
		chance.Shuffle(len(all), func(i, j int) { all[i], all[j] = all[j], all[i] })
		b := impl.Book{Now: 3}
		for i, l := range all {
			c, token, code := checkGrant(t, b, l.At, l.Owner, 10)
			if i < mostLeases && (code != impl.LeaseGood || token != i+1) || i == mostLeases && (code != impl.LeaseMany || token != 0) {
				t.Fatalf("lease %d: %d, %d", i, token, code)
			}
			b = c
		}
		if len(b.Leases) != mostLeases || !checkBook(t, b) {
			t.Fatal("not right:", b)
		}
		next := all[mostLeases]
		if _, _, code := checkGrant(t, b, all[7].At, "ann", 10); code != impl.LeaseHeld {
			t.Error("too many, and one that is held:", code)
		}
		if _, _, code := checkGrant(t, b, next.At, "ann", 1001); code != impl.LeaseForm {
			t.Error("too many, and no span:", code)
		}
		if _, _, code := checkGrant(t, b, next.At, "", 10); code != impl.LeaseForm {
			t.Error("too many, and no owner:", code)
		}
		if _, code := checkRenew(t, b, next.At, 3, 10); code != impl.LeaseNone {
			t.Error("renew:", code)
		}
		c, code := checkRelease(t, b, all[7].At, 8)
		if code != impl.LeaseGood {
			t.Fatal("release:", code)
		}
		if _, token, code := checkGrant(t, c, next.At, "ann", 10); code != impl.LeaseGood || token != mostLeases+1 {
			t.Error("one less:", token, code)
		}
		if c, gone := checkAdvance(t, b, 13); len(gone) != mostLeases || len(c.Leases) != 0 || c.Token != mostLeases {
			t.Error("all gone:", gone, c)
		}
	}
}

func TestRenewTable(t *testing.T) {
	three := "10.0.0.1=ann,4,50 10.0.0.9=bob,7,11 2001:db8::5=ann,2,900"
	for _, c := range []struct {
		at          string
		token, span int
		code        int
		want        string
	}{
		// To less, to the same, and to more than it has.
		{"10.0.0.1", 4, 1, impl.LeaseGood, three},
		{"10.0.0.1", 4, 39, impl.LeaseGood, three},
		{"10.0.0.1", 4, 40, impl.LeaseGood, three},
		{"10.0.0.1", 4, 41, impl.LeaseGood, "10.0.0.1=ann,4,51 10.0.0.9=bob,7,11 2001:db8::5=ann,2,900"},
		{"10.0.0.1", 4, 1000, impl.LeaseGood, "10.0.0.1=ann,4,1010 10.0.0.9=bob,7,11 2001:db8::5=ann,2,900"},
		{"10.0.0.9", 7, 1, impl.LeaseGood, three},
		{"10.0.0.9", 7, 2, impl.LeaseGood, "10.0.0.1=ann,4,50 10.0.0.9=bob,7,12 2001:db8::5=ann,2,900"},
		{"2001:db8::5", 2, 889, impl.LeaseGood, three},
		{"2001:db8::5", 2, 890, impl.LeaseGood, three},
		{"2001:db8::5", 2, 891, impl.LeaseGood, "10.0.0.1=ann,4,50 10.0.0.9=bob,7,11 2001:db8::5=ann,2,901"},
		// Not leased, whatever the token.
		{"10.0.0.0", 4, 1, impl.LeaseNone, three},
		{"10.0.0.2", 4, 1, impl.LeaseNone, three},
		{"10.0.0.2", 0, 1000, impl.LeaseNone, three},
		{"10.0.0.10", 7, 1, impl.LeaseNone, three},
		{"2001:db8::4", 2, 1, impl.LeaseNone, three},
		{"2001:db8::6", 2, 1, impl.LeaseNone, three},
		{"::", 2, 1, impl.LeaseNone, three},
		// Another token: an older one, a newer one, another lease's, one that is none.
		{"10.0.0.1", 3, 1000, impl.LeaseFenced, three},
		{"10.0.0.1", 5, 1000, impl.LeaseFenced, three},
		{"10.0.0.1", 7, 1000, impl.LeaseFenced, three},
		{"10.0.0.1", 8, 1000, impl.LeaseFenced, three},
		{"10.0.0.1", 2, 1, impl.LeaseFenced, three},
		{"10.0.0.1", 0, 1, impl.LeaseFenced, three},
		{"10.0.0.1", -4, 1, impl.LeaseFenced, three},
		{"10.0.0.1", lastToken + 1, 1, impl.LeaseFenced, three},
		{"2001:db8::5", 4, 1000, impl.LeaseFenced, three},
		// No span: ahead of both.
		{"10.0.0.1", 4, 0, impl.LeaseForm, three},
		{"10.0.0.1", 4, -1, impl.LeaseForm, three},
		{"10.0.0.1", 4, 1001, impl.LeaseForm, three},
		{"10.0.0.1", 4, math.MaxInt, impl.LeaseForm, three},
		{"10.0.0.1", 4, math.MinInt, impl.LeaseForm, three},
		{"10.0.0.1", 3, 0, impl.LeaseForm, three},
		{"10.0.0.2", 3, 1001, impl.LeaseForm, three},
	} {
		got, code := checkRenew(t, bookOfTexts(t, three, 7, 10), addrOfText(t, c.at), c.token, c.span)
		if code != c.code || bookTexts(got) != c.want || got.Token != 7 || got.Now != 10 {
			t.Errorf("Renew(.., %s, %d, %d) = %s, %d, not %s, %d", c.at, c.token, c.span, bookTexts(got), code, c.want, c.code)
		}
	}
	if _, code := checkRenew(t, impl.Book{}, impl.Addr{}, 0, 1); code != impl.LeaseNone {
		t.Error("of an empty book:", code)
	}
	// Where Now and the span are above MaxTime it is LeaseForm, though the lease has as much as may be.
	late := bookOfTexts(t, "10.0.0.1=ann,1,1000000000", 1, lastTime-5)
	for span, want := range map[int]int{1: impl.LeaseGood, 5: impl.LeaseGood, 6: impl.LeaseForm, 1000: impl.LeaseForm} {
		if got, code := checkRenew(t, late, addrOfText(t, "10.0.0.1"), 1, span); code != want || !sameBook(got, late) {
			t.Error("late:", span, got, code)
		}
	}
}

// Release and Holder tell the same codes.
func TestReleaseAndHolderTable(t *testing.T) {
	three := "10.0.0.1=ann,4,50 10.0.0.9=bob,7,11 2001:db8::5=ann,2,900"
	for _, c := range []struct {
		at    string
		token int
		code  int
		owner string
		want  string
	}{
		{"10.0.0.1", 4, impl.LeaseGood, "ann", "10.0.0.9=bob,7,11 2001:db8::5=ann,2,900"},
		{"10.0.0.9", 7, impl.LeaseGood, "bob", "10.0.0.1=ann,4,50 2001:db8::5=ann,2,900"},
		{"2001:db8::5", 2, impl.LeaseGood, "ann", "10.0.0.1=ann,4,50 10.0.0.9=bob,7,11"},
		{"10.0.0.0", 4, impl.LeaseNone, "", three},
		{"10.0.0.2", 4, impl.LeaseNone, "", three},
		{"10.0.0.10", 7, impl.LeaseNone, "", three},
		{"10.0.0.10", 0, impl.LeaseNone, "", three},
		{"::5", 2, impl.LeaseNone, "", three},
		{"2001:db8::6", 2, impl.LeaseNone, "", three},
		{"ffff::", -1, impl.LeaseNone, "", three},
		{"10.0.0.1", 3, impl.LeaseFenced, "", three},
		{"10.0.0.1", 5, impl.LeaseFenced, "", three},
		{"10.0.0.1", 7, impl.LeaseFenced, "", three},
		{"10.0.0.1", 0, impl.LeaseFenced, "", three},
		{"10.0.0.1", -4, impl.LeaseFenced, "", three},
		{"10.0.0.9", 8, impl.LeaseFenced, "", three},
		{"10.0.0.9", lastToken + 1, impl.LeaseFenced, "", three},
		{"10.0.0.9", math.MaxInt, impl.LeaseFenced, "", three},
		{"2001:db8::5", math.MinInt, impl.LeaseFenced, "", three},
		{"2001:db8::5", 4, impl.LeaseFenced, "", three},
	} {
		b := bookOfTexts(t, three, 7, 10)
		got, code := checkRelease(t, b, addrOfText(t, c.at), c.token)
		if code != c.code || bookTexts(got) != c.want || got.Token != 7 || got.Now != 10 {
			t.Errorf("Release(.., %s, %d) = %s, %d, not %s, %d", c.at, c.token, bookTexts(got), code, c.want, c.code)
		}
		if owner, code := checkHolder(t, b, addrOfText(t, c.at), c.token); code != c.code || owner != c.owner {
			t.Errorf("Holder(.., %s, %d) = %q, %d, not %q, %d", c.at, c.token, owner, code, c.owner, c.code)
		}
		if owner, code := checkHolder(t, got, addrOfText(t, c.at), c.token); c.code == impl.LeaseGood && (code != impl.LeaseNone || owner != "") {
			t.Errorf("released, Holder(.., %s, %d) = %q, %d", c.at, c.token, owner, code)
		}
	}
	for _, token := range []int{0, 1, -1} {
		if _, code := checkRelease(t, impl.Book{}, impl.Addr{}, token); code != impl.LeaseNone {
			t.Error("of an empty book:", code)
		}
		if owner, code := checkHolder(t, impl.Book{}, impl.Addr{}, token); owner != "" || code != impl.LeaseNone {
			t.Error("of an empty book:", owner, code)
		}
	}
}

func TestAdvanceTable(t *testing.T) {
	four := "10.0.0.1=ann,4,50 10.0.0.9=bob,7,11 ::=c,1,50 2001:db8::5=ann,2,1000000000"
	for _, c := range []struct {
		now, then int
		gone      string
		want      string
	}{
		// Time that goes back, stands, or passes MaxTime.
		{math.MinInt, 10, "", four},
		{-1, 10, "", four},
		{0, 10, "", four},
		{9, 10, "", four},
		{10, 10, "", four},
		{lastTime + 1, 10, "", four},
		{1 << 32, 10, "", four},
		{math.MaxInt, 10, "", four},
		// To just one ahead of an end, to it, and behind it.
		{11, 11, "10.0.0.9", "10.0.0.1=ann,4,50 ::=c,1,50 2001:db8::5=ann,2,1000000000"},
		{12, 12, "10.0.0.9", "10.0.0.1=ann,4,50 ::=c,1,50 2001:db8::5=ann,2,1000000000"},
		{49, 49, "10.0.0.9", "10.0.0.1=ann,4,50 ::=c,1,50 2001:db8::5=ann,2,1000000000"},
		{50, 50, "10.0.0.1 10.0.0.9 ::", "2001:db8::5=ann,2,1000000000"},
		{51, 51, "10.0.0.1 10.0.0.9 ::", "2001:db8::5=ann,2,1000000000"},
		{lastTime - 1, lastTime - 1, "10.0.0.1 10.0.0.9 ::", "2001:db8::5=ann,2,1000000000"},
		{lastTime, lastTime, "10.0.0.1 10.0.0.9 :: 2001:db8::5", ""},
	} {
		got, gone := checkAdvance(t, bookOfTexts(t, four, 7, 10), c.now)
		want := []impl.Addr{}
		for _, s := range strings.Fields(c.gone) {
			want = append(want, addrOfText(t, s))
		}
		if got.Now != c.then || got.Token != 7 || bookTexts(got) != c.want || !slices.Equal(gone, want) {
			t.Errorf("Advance(.., %d) = %v, %v", c.now, got, gone)
		}
		if !checkBook(t, got) {
			t.Errorf("not right behind Advance(.., %d)", c.now)
		}
	}
	for now, want := range map[int]int{-1: 0, 0: 0, 1: 1, lastTime: lastTime, lastTime + 1: 0} {
		if got, gone := checkAdvance(t, impl.Book{}, now); !sameBook(got, impl.Book{Now: want}) || len(gone) != 0 {
			t.Error("of an empty book:", now, got, gone)
		}
	}
	if got, gone := checkAdvance(t, impl.Book{Token: 4, Now: lastTime}, lastTime); got.Now != lastTime || got.Token != 4 || len(gone) != 0 {
		t.Error("at the end of time:", got, gone)
	}
}

// A lease is there up to just ahead of its end, in whatever steps time comes there, and its address can be granted from its end on.
func TestLeaseEnds(t *testing.T) {
	at := narrow(7)
	for _, span := range []int{1, 2, 3, 10, 999, 1000} {
		for _, start := range []int{0, 1, 500, lastTime - 1000} {
			b, token, code := checkGrant(t, impl.Book{Now: start, Token: 5}, at, "ann", span)
			if code != impl.LeaseGood {
				t.Fatal(code)
			}
			end := start + span
			for _, step := range []int{1, 3, 7, 400, 1000} {
				c, gone := b, []impl.Addr{}
				for c.Now < end-1 {
					if c, gone = checkAdvance(t, c, min(c.Now+step, end-1)); len(gone) != 0 {
						t.Fatal("gone too early:", c, gone)
					}
				}
				if owner, code := checkHolder(t, c, at, token); owner != "ann" || code != impl.LeaseGood {
					t.Fatal("one ahead of its end:", owner, code)
				}
				if _, _, code := checkGrant(t, c, at, "bob", 1); code != impl.LeaseHeld {
					t.Fatal("one ahead of its end:", code)
				}
				for _, now := range []int{end, min(end+1, lastTime), lastTime} {
					d, gone := checkAdvance(t, c, now)
					if d.Now != now || !slices.Equal(gone, []impl.Addr{at}) || len(d.Leases) != 0 {
						t.Fatal("at its end:", d, gone)
					}
					if owner, code := checkHolder(t, d, at, token); owner != "" || code != impl.LeaseNone {
						t.Fatal("behind its end:", owner, code)
					}
					if d, next, code := checkGrant(t, d, at, "bob", 1); now < lastTime && (code != impl.LeaseGood || next != token+1 || d.Leases[0].Owner != "bob") {
						t.Fatal("granted again:", d, next, code)
					}
				}
			}
		}
	}
}

// Renewed ahead of its end a lease goes on, under the same token; renewed to less it ends when it would have.
func TestRenewedLeaseEnds(t *testing.T) {
	at := wide(1, 2)
	for _, again := range []int{1, 9, 10, 11, 50, 1000} {
		b, token, _ := checkGrant(t, impl.Book{}, at, "ann", 20)
		b, _ = checkAdvance(t, b, 10)
		b, code := checkRenew(t, b, at, token, again)
		end := max(20, 10+again)
		if code != impl.LeaseGood || b.Leases[0].Until != end || b.Leases[0].Token != token || b.Token != token {
			t.Fatal(again, b, code)
		}
		c, gone := checkAdvance(t, b, end-1)
		if len(gone) != 0 {
			t.Error("gone too early:", again, gone)
		}
		if _, code := checkRenew(t, c, at, token, 1); code != impl.LeaseGood {
			t.Error("renewed at the last time:", again, code)
		}
		if c, gone = checkAdvance(t, c, end); len(gone) != 1 {
			t.Error("not gone:", again, c)
		}
		if _, code := checkRenew(t, c, at, token, 1); code != impl.LeaseNone {
			t.Error("renewed behind its end:", again, code)
		}
	}
}

// wrongBooks are not BookOk, each by one thing alone.
func wrongBooks(t *testing.T) map[string]impl.Book {
	t.Helper()
	two := "10.0.0.1=ann,1,20 10.0.0.2=bob,2,30"
	books := map[string]impl.Book{
		"leases that do not ascend":      bookOfTexts(t, "10.0.0.2=bob,2,30 10.0.0.1=ann,1,20", 2, 10),
		"an address twice":               bookOfTexts(t, "10.0.0.1=ann,1,20 10.0.0.1=bob,2,30", 2, 10),
		"widths that do not ascend":      bookOfTexts(t, "::1=ann,1,20 10.0.0.1=bob,2,30", 2, 10),
		"a last one that stands first":   bookOfTexts(t, "ffff::=c,3,90 "+two, 3, 10),
		"no owner":                       bookOfTexts(t, two+" 10.0.0.3=,3,20", 3, 10),
		"a wrong owner":                  bookOfTexts(t, two+" 10.0.0.3=C,3,20", 3, 10),
		"a long owner":                   bookOfTexts(t, two+" 10.0.0.3=abcdefghijklm,3,20", 3, 10),
		"a token of 0":                   bookOfTexts(t, two+" 10.0.0.3=c,0,20", 3, 10),
		"a token below 0":                bookOfTexts(t, two+" 10.0.0.3=c,-1,20", 3, 10),
		"a token above the book's":       bookOfTexts(t, two+" 10.0.0.3=c,4,20", 3, 10),
		"a token twice":                  bookOfTexts(t, two+" 10.0.0.3=c,1,20", 3, 10),
		"neighbours with one token":      bookOfTexts(t, two+" 10.0.0.3=c,2,20", 3, 10),
		"a lease that ends now":          bookOfTexts(t, two+" 10.0.0.3=c,3,10", 3, 10),
		"a lease that has ended":         bookOfTexts(t, two+" 10.0.0.3=c,3,9", 3, 10),
		"a lease without an end":         bookOfTexts(t, two+" 10.0.0.3=c,3,0", 3, 10),
		"a lease that ends too late":     bookOfTexts(t, two+" 10.0.0.3=c,3,1000000001", 3, 10),
		"a lease at the end of time":     bookOfTexts(t, "10.0.0.3=c,3,1000000000", 3, lastTime),
		"a Token below 0":                bookOfTexts(t, "", -1, 10),
		"a Token above MaxToken":         bookOfTexts(t, two, lastToken+1, 10),
		"the least Token":                bookOfTexts(t, "", math.MinInt, 10),
		"the greatest Token":             bookOfTexts(t, two, math.MaxInt, 10),
		"a Now below 0":                  bookOfTexts(t, two, 2, -1),
		"a Now above MaxTime":            bookOfTexts(t, "", 2, lastTime+1),
		"the least Now":                  bookOfTexts(t, two, 2, math.MinInt),
		"the greatest Now":               bookOfTexts(t, "", 2, math.MaxInt),
		"a Now that a span carries over": bookOfTexts(t, "", 2, math.MaxInt-999),
		"too many":                       leasesOf(mostLeases + 1),
		"far too many":                   leasesOf(500),
	}
	for i, a := range wrongAddrs() {
		books["no address "+strconv.Itoa(i)] = impl.Book{Leases: []impl.Lease{{At: a, Owner: "ann", Token: 1, Until: 20}}, Token: 2, Now: 10}
		late := bookOfTexts(t, two, 4, 10)
		late.Leases = append(late.Leases, impl.Lease{At: a, Owner: "ann", Token: 3, Until: 20})
		books["no address, behind others "+strconv.Itoa(i)] = late
	}
	return books
}

// Of a book that is not right LeaseForm and the book are told, whatever else could be.
func TestWrongBooks(t *testing.T) {
	for name, b := range wrongBooks(t) {
		if checkBook(t, b) {
			t.Fatal("right:", name)
		}
		ats := []impl.Addr{{}, narrow(0x0a000001), narrow(0x0a000002), narrow(0x0a000003), wide(0, 1), wide(-1, -1), narrow(-1)}
		for i := 0; i < len(b.Leases); i += 40 {
			ats = append(ats, b.Leases[i].At)
		}
		for _, at := range ats {
			for _, token := range []int{0, 1, 2, 3} {
				for _, span := range []int{0, 1, 1000, 1001} {
					if c, code := checkRenew(t, b, at, token, span); code != impl.LeaseForm || !sameBook(c, b) {
						t.Error("Renew:", name, at, token, span, code)
					}
				}
				if c, code := checkRelease(t, b, at, token); code != impl.LeaseForm || !sameBook(c, b) {
					t.Error("Release:", name, at, token, code)
				}
				if owner, code := checkHolder(t, b, at, token); code != impl.LeaseForm || owner != "" {
					t.Error("Holder:", name, at, token, owner, code)
				}
			}
			for _, span := range []int{0, 1, 1000, 1001} {
				if c, token, code := checkGrant(t, b, at, "ann", span); code != impl.LeaseForm || token != 0 || !sameBook(c, b) {
					t.Error("Grant:", name, at, span, token, code)
				}
			}
		}
		for _, now := range []int{math.MinInt, -1, 0, 1, 9, 10, 11, 20, 100, lastTime - 1, lastTime, lastTime + 1, math.MaxInt} {
			if c, gone := checkAdvance(t, b, now); len(gone) != 0 || !sameBook(c, b) {
				t.Error("Advance:", name, now, c, gone)
			}
		}
	}
}

// An argument that is not as told is LeaseForm beside every right book: ahead of being held, of too many, of there being none, of another token.
func TestWrongLeaseArguments(t *testing.T) {
	books := []impl.Book{
		{},
		{Token: 4, Now: lastTime},
		bookOfTexts(t, "0.0.0.0=ann,1,20 0.0.0.7=bob,3,20 ::=ann,2,20", 3, 10),
		leasesOf(mostLeases),
		{Token: lastToken, Now: 7},
	}
	owners := []string{"", "A", "Ann", "a`", "a{", "a/", "a:", "a,", "a.", " ", "a ", "abcdefghijklm", "ä", "\x00", "\xff"}
	for _, b := range books {
		if !checkBook(t, b) {
			t.Fatal("not right:", b)
		}
		for _, a := range wrongAddrs() {
			for _, token := range []int{0, 1, 2} {
				if c, code := checkRenew(t, b, a, token, 5); code != impl.LeaseForm || !sameBook(c, b) {
					t.Error("Renew:", a, token, code)
				}
				if c, code := checkRelease(t, b, a, token); code != impl.LeaseForm || !sameBook(c, b) {
					t.Error("Release:", a, token, code)
				}
				if owner, code := checkHolder(t, b, a, token); code != impl.LeaseForm || owner != "" {
					t.Error("Holder:", a, token, owner, code)
				}
			}
			if c, token, code := checkGrant(t, b, a, "ann", 5); code != impl.LeaseForm || token != 0 || !sameBook(c, b) {
				t.Error("Grant:", a, token, code)
			}
		}
		for _, at := range []impl.Addr{narrow(0), narrow(1), narrow(2), wide(0, 0), wide(-1, -1)} {
			for _, owner := range owners {
				if c, token, code := checkGrant(t, b, at, owner, 5); code != impl.LeaseForm || token != 0 || !sameBook(c, b) {
					t.Error("Grant:", at, owner, token, code)
				}
			}
		}
	}
}

// Each way in which several codes could be told: those that the chapter names first are.
func TestFirstCodeCounts(t *testing.T) {
	short := leasesOf(mostLeases - 1)
	for _, full := range []bool{false, true} {
		b := short
		if full {
			b = withLease(b, impl.Lease{At: wide(-1, -1), Owner: "last", Token: mostLeases, Until: 1000})
		}
		for _, last := range []bool{false, true} {
			if last {
				b.Token = lastToken
			}
			for _, at := range []impl.Addr{b.Leases[0].At, narrow(2), b.Leases[60].At, narrow(-1)} {
				held := at == b.Leases[0].At || at == b.Leases[60].At
				for _, owner := range []string{"ann", "Ann"} {
					for _, span := range []int{0, 1, 1000, 1001} {
						want := impl.LeaseGood
						switch {
						case at == narrow(-1) || owner == "Ann" || span == 0 || span == 1001 || last:
							want = impl.LeaseForm
						case held:
							want = impl.LeaseHeld
						case full:
							want = impl.LeaseMany
						}
						if _, _, code := checkGrant(t, b, at, owner, span); code != want {
							t.Errorf("full %v, last %v: Grant(.., %v, %q, %d) is %d, not %d", full, last, at, owner, span, code, want)
						}
					}
				}
				for _, own := range []bool{false, true} {
					checkHeldCodes(t, b, at, own)
				}
			}
		}
	}
}

// checkHeldCodes asks with the lease's own token, or with another one.
func checkHeldCodes(t *testing.T, b impl.Book, at impl.Addr, own bool) {
	t.Helper()
	l, held := leaseOf(b, at)
	token, want := l.Token, impl.LeaseGood
	if !own {
		token, want = l.Token+1, impl.LeaseFenced
	}
	if !held {
		want = impl.LeaseNone
	}
	if at == narrow(-1) {
		want = impl.LeaseForm
	}
	if _, code := checkHolder(t, b, at, token); code != want {
		t.Error("Holder:", at, token, code, want)
	}
	if _, code := checkRelease(t, b, at, token); code != want {
		t.Error("Release:", at, token, code, want)
	}
	for _, span := range []int{1, 1000} {
		if _, code := checkRenew(t, b, at, token, span); code != want {
			t.Error("Renew:", at, token, span, code, want)
		}
	}
	for _, span := range []int{0, 1001} {
		if _, code := checkRenew(t, b, at, token, span); code != impl.LeaseForm {
			t.Error("Renew:", at, token, span, code)
		}
	}
}

// Who comes with another token than the lease's own changes nothing, whatever it is: one that its address had, one that another has, one that will come.
func TestOtherTokensChangeNothing(t *testing.T) {
	at, other := narrow(7), wide(0, 7)
	b := impl.Book{}
	for range 5 {
		c, token, code := checkGrant(t, b, at, "ann", 3)
		if code != impl.LeaseGood {
			t.Fatal(code)
		}
		if b, code = checkRelease(t, c, at, token); code != impl.LeaseGood {
			t.Fatal(code)
		}
	}
	b, _, _ = checkGrant(t, b, other, "bob", 900)
	b, own, _ := checkGrant(t, b, at, "c", 50)
	if own != 7 {
		t.Fatal("token:", own)
	}
	for _, token := range slices.Concat(upTo(20), []int{math.MinInt, -7, -1, 0, 7 + 1<<32, lastToken, lastToken + 1, math.MaxInt}) {
		if token == own {
			continue
		}
		for _, span := range []int{1, 49, 50, 51, 1000} {
			if c, code := checkRenew(t, b, at, token, span); code != impl.LeaseFenced || !sameBook(c, b) {
				t.Error("Renew:", token, span, code, c)
			}
		}
		if c, code := checkRelease(t, b, at, token); code != impl.LeaseFenced || !sameBook(c, b) {
			t.Error("Release:", token, code, c)
		}
		if owner, code := checkHolder(t, b, at, token); code != impl.LeaseFenced || owner != "" {
			t.Error("Holder:", token, owner, code)
		}
	}
	if owner, code := checkHolder(t, b, at, own); code != impl.LeaseGood || owner != "c" {
		t.Error("Holder:", owner, code)
	}
}

// bookWalker goes on from book to book by any calls, each held against the plain search.
type bookWalker struct {
	chance *rand.Rand
	addrs  []impl.Addr
	book   impl.Book
	seen   map[string]int
	// The tokens that were given, by address, in their order; and the last of all.
	given map[impl.Addr][]int
	last  int
}

func (w *bookWalker) someAddr() impl.Addr {
	n := w.chance.Intn(30)
	switch {
	case n == 0:
		return wrongAddrs()[w.chance.Intn(len(wrongAddrs()))]
	case n < 15 && len(w.book.Leases) > 0:
		return w.book.Leases[w.chance.Intn(len(w.book.Leases))].At
	}
	return w.addrs[w.chance.Intn(len(w.addrs))]
}

// someToken is mostly the lease's own, else an older one of this address, or any.
func (w *bookWalker) someToken(at impl.Addr) int {
	l, held := leaseOf(w.book, at)
	old := w.given[at]
	switch n := w.chance.Intn(8); {
	case n < 5 && held:
		return l.Token
	case n < 7 && len(old) > 0:
		return old[w.chance.Intn(len(old))]
	}
	return w.chance.Intn(w.book.Token+3) - 1
}

func (w *bookWalker) someSpan() int {
	switch n := w.chance.Intn(20); {
	case n == 0:
		return []int{-1, 0, mostSpan + 1, math.MaxInt}[w.chance.Intn(4)]
	case n < 3:
		return []int{1, 2, mostSpan - 1, mostSpan}[w.chance.Intn(4)]
	}
	return 1 + w.chance.Intn(60)
}

func (w *bookWalker) someOwner() string {
	if w.chance.Intn(30) == 0 {
		return []string{"", "Ann", "abcdefghijklm"}[w.chance.Intn(3)]
	}
	return []string{"ann", "bob", "abcdefghijkl"}[w.chance.Intn(3)]
}

// someTime is mostly an end of a lease, or one ahead of or behind one.
func (w *bookWalker) someTime() int {
	n := w.chance.Intn(10)
	if n == 0 {
		return []int{-1, 0, w.book.Now - 1, w.book.Now, lastTime + 1, math.MaxInt}[w.chance.Intn(6)]
	}
	if n < 4 || len(w.book.Leases) == 0 {
		return w.book.Now + w.chance.Intn(4)
	}
	first := w.book.Leases[0].Until
	for _, l := range w.book.Leases {
		first = min(first, l.Until)
	}
	return first + w.chance.Intn(3) - 1
}

// step tells what was called and which code it answered; weights say how often leases come and go.
func (w *bookWalker) step(t *testing.T, weights [5]int) {
	t.Helper()
	n := w.chance.Intn(weights[0] + weights[1] + weights[2] + weights[3] + weights[4])
	at, what, code, before := w.someAddr(), "", 0, w.book
	switch {
	case n < weights[0]:
		what = "grant"
		token := 0
		w.book, token, code = checkGrant(t, w.book, at, w.someOwner(), w.someSpan())
		w.tokenGiven(t, at, token, code)
	case n < weights[0]+weights[1]:
		what = "renew"
		w.book, code = checkRenew(t, w.book, at, w.someToken(at), w.someSpan())
	case n < weights[0]+weights[1]+weights[2]:
		what = "release"
		w.book, code = checkRelease(t, w.book, at, w.someToken(at))
	case n < weights[0]+weights[1]+weights[2]+weights[3]:
		what = "holder"
		_, code = checkHolder(t, w.book, at, w.someToken(at))
	default:
		what = "advance"
		gone := []impl.Addr{}
		w.book, gone = checkAdvance(t, w.book, w.someTime())
		code = min(len(gone), 2)
		if w.book.Now == before.Now {
			code = -1
		}
	}
	w.seen[fmt.Sprint(what, " ", code)]++
	w.looked(t, before, what, code)
}

// tokenGiven fails if a token does not rise above all that were given ahead of it, or is told where none was given.
func (w *bookWalker) tokenGiven(t *testing.T, at impl.Addr, token int, code int) {
	t.Helper()
	if code != impl.LeaseGood {
		if token != 0 {
			t.Fatal("a token without a lease:", token, code)
		}
		return
	}
	if token <= w.last {
		t.Fatalf("the token %d behind %d", token, w.last)
	}
	w.last = token
	w.given[at] = append(w.given[at], token)
}

// looked holds a step against what the promise says of any: a lease goes by its own time or by a good release alone, and keeps its owner and its token.
func (w *bookWalker) looked(t *testing.T, before impl.Book, what string, code int) {
	t.Helper()
	if !impl.BookOk(w.book) || w.book.Token < before.Token || w.book.Now < before.Now {
		t.Fatalf("not right behind %s: %v", what, w.book)
	}
	if what != "advance" && code != impl.LeaseGood && !sameBook(w.book, before) {
		t.Fatalf("%s was refused with %d, and the book changed", what, code)
	}
	lost := 0
	for _, l := range before.Leases {
		k, held := leaseOf(w.book, l.At)
		switch {
		case held && (k.Owner != l.Owner || k.Token != l.Token || k.Until < l.Until):
			t.Fatalf("%s changed %v to %v", what, l, k)
		case held && k.Until > l.Until && what != "renew":
			t.Fatalf("%s renewed %v to %v", what, l, k)
		case held == (what == "advance" && l.Until <= w.book.Now):
			lost++
		}
	}
	if lost > 0 && (what != "release" || code != impl.LeaseGood || lost != 1) {
		t.Fatalf("%s took %d leases: %v, %v", what, lost, before, w.book)
	}
}

func TestBooksMovedByAnyCalls(t *testing.T) {
	seen := map[string]int{}
	addrs := []impl.Addr{}
	for i := range 60 {
		addrs = append(addrs, narrow(i), wide(i<<58, -i))
	}
	addrs = append(addrs, risingAddrs()...)
	for seed := range 40 {
		w := &bookWalker{chance: rand.New(rand.NewSource(int64(seed))), addrs: addrs, seen: seen, given: map[impl.Addr][]int{}}
		weights := [5]int{8, 4, 3, 3, 4}
		switch seed % 4 {
		case 1: // few addresses, which are granted again and again
			w.addrs = addrs[:6]
		case 2: // a full book
			weights = [5]int{30, 4, 1, 2, 1}
		case 3: // near the end of time and tokens
			w.book = impl.Book{Token: lastToken - 60, Now: lastTime - 150}
			w.last = w.book.Token
		}
		for i := range 400 {
			w.step(t, weights)
			if i%20 == 0 {
				checkBook(t, w.book)
			}
		}
		for at, list := range w.given {
			if !slices.IsSorted(list) || len(slices.Compact(slices.Clone(list))) != len(list) {
				t.Fatal("tokens that do not rise:", at, list)
			}
		}
	}
	wanted := []string{"grant 0", "grant 10", "grant 11", "grant 12", "renew 0", "renew 10", "renew 13", "renew 14", "release 0", "release 10", "release 13", "release 14", "holder 0", "holder 10", "holder 13", "holder 14", "advance -1", "advance 0", "advance 1", "advance 2"}
	for _, s := range wanted {
		if seen[s] < 20 {
			t.Errorf("hardly ever seen: %s: %d", s, seen[s])
		}
	}
	if len(seen) != len(wanted) {
		t.Error("codes that are none of a call's:", seen)
	}
}

// A book that only time moves loses its leases at their ends, each at its own: in one step or in many.
func TestLeasesEndByTimeAlone(t *testing.T) {
	chance := rand.New(rand.NewSource(62))
	for range 40 {
		start := impl.Book{}
		for i := range 1 + chance.Intn(mostLeases) {
			at := narrow(i)
			if chance.Intn(2) == 0 {
				at = wide(chance.Int(), i)
			}
			start, _, _ = checkGrant(t, start, at, "own-"+strconv.Itoa(i%5), 1+chance.Intn(60))
		}
		ends := map[int][]impl.Addr{}
		for _, l := range start.Leases {
			ends[l.Until] = append(ends[l.Until], l.At)
		}
		b := start
		for now := 1; now <= 60; now++ {
			c, gone := checkAdvance(t, b, now)
			if !slices.Equal(gone, ends[now]) || len(c.Leases) != len(b.Leases)-len(gone) {
				t.Fatal("at", now, "gone:", gone, "not", ends[now])
			}
			if d, _ := checkAdvance(t, start, now); !sameBook(d, c) {
				t.Fatal("in one step:", d, "in many:", c)
			}
			if again, none := checkAdvance(t, c, now); len(none) != 0 || !sameBook(again, c) {
				t.Fatal("the same time again:", again, none)
			}
			b = c
		}
		if len(b.Leases) != 0 {
			t.Fatal("left:", b)
		}
	}
}

// What was answered stays, whatever happens to what was handed in, and a second call answers the same.
func TestBooksStayApart(t *testing.T) {
	at, free := narrow(0x0a000001), narrow(0x0a000003)
	for name, call := range map[string]func(impl.Book) (impl.Book, int){
		"grant":         func(b impl.Book) (impl.Book, int) { c, _, code := impl.Grant(b, free, "c", 5); return c, code },
		"grant held":    func(b impl.Book) (impl.Book, int) { c, _, code := impl.Grant(b, at, "c", 5); return c, code },
		"grant form":    func(b impl.Book) (impl.Book, int) { c, _, code := impl.Grant(b, free, "", 5); return c, code },
		"renew":         func(b impl.Book) (impl.Book, int) { return impl.Renew(b, at, 1, 500) },
		"renew less":    func(b impl.Book) (impl.Book, int) { return impl.Renew(b, at, 1, 1) },
		"renew none":    func(b impl.Book) (impl.Book, int) { return impl.Renew(b, free, 1, 5) },
		"renew fenced":  func(b impl.Book) (impl.Book, int) { return impl.Renew(b, at, 2, 5) },
		"renew form":    func(b impl.Book) (impl.Book, int) { return impl.Renew(b, at, 1, 0) },
		"release":       func(b impl.Book) (impl.Book, int) { return impl.Release(b, at, 1) },
		"release none":  func(b impl.Book) (impl.Book, int) { return impl.Release(b, free, 1) },
		"release other": func(b impl.Book) (impl.Book, int) { return impl.Release(b, at, 2) },
		"release form":  func(b impl.Book) (impl.Book, int) { return impl.Release(b, narrow(-1), 2) },
		"advance":       func(b impl.Book) (impl.Book, int) { c, gone := impl.Advance(b, 20); return c, len(gone) },
		"advance early": func(b impl.Book) (impl.Book, int) { c, gone := impl.Advance(b, 19); return c, len(gone) },
		"advance back":  func(b impl.Book) (impl.Book, int) { c, gone := impl.Advance(b, 9); return c, len(gone) },
		"advance far":   func(b impl.Book) (impl.Book, int) { c, gone := impl.Advance(b, lastTime+1); return c, len(gone) },
		"no leases":     func(b impl.Book) (impl.Book, int) { b.Leases = b.Leases[:0]; return impl.Release(b, at, 1) },
		"wrong": func(b impl.Book) (impl.Book, int) {
			b.Token = 0
			c, gone := impl.Advance(b, 20)
			return c, len(gone)
		},
	} {
		given := bookOfTexts(t, "10.0.0.1=ann,1,20 10.0.0.2=bob,2,30 ::=ann,3,20", 3, 10)
		first, code := call(given)
		kept := cloneBook(first)
		second, again := call(given)
		if code != again || !sameBook(second, kept) {
			t.Error("called twice:", name, code, again)
		}
		scribbleBook(second)
		if !sameBook(first, kept) {
			t.Error("two answers share memory:", name)
		}
		scribbleBook(given)
		if !sameBook(first, kept) {
			t.Error("changed with what was handed in:", name)
		}
	}
	b := bookOfTexts(t, "10.0.0.1=ann,1,20 10.0.0.2=bob,2,30 ::=ann,3,20", 3, 10)
	_, gone := impl.Advance(b, 20)
	clear(gone[:cap(gone)])
	if _, again := impl.Advance(b, 20); !slices.Equal(again, []impl.Addr{at, wide(0, 0)}) {
		t.Error("gone:", again)
	}
}
