package tests

import (
	"fmt"
	"math"
	"math/rand"
	"slices"
	"strconv"
	"strings"
	"testing"

	"loop.example/g00113/impl"
)

const (
	mostSessions = 12
	lastNext     = 1000000
	lastSeq      = 1000000
	longestReply = 200
)

// deskRight says of a desk what the document does, one thing after the other, and looks at every two sessions.
func deskRight(d impl.Desk) bool {
	if len(d.Sessions) > mostSessions || !isWithin(d.Next, 1, lastNext) {
		return false
	}
	for i, s := range d.Sessions {
		if !isWithin(s.Id, 1, d.Next-1) || !isWithin(s.Last, 0, lastSeq) || !isWithin(s.Until, 0, lastTime) {
			return false
		}
		if len(s.Reply) > longestReply || s.Last == 0 && len(s.Reply) > 0 {
			return false
		}
		for _, k := range d.Sessions[:i] {
			if k.Id >= s.Id {
				return false
			}
		}
	}
	return true
}

func cloneDesk(d impl.Desk) impl.Desk {
	d.Sessions = slices.Clone(d.Sessions)
	return d
}

// sameDesk takes a list without elements and nil for the same.
func sameDesk(a impl.Desk, b impl.Desk) bool {
	return slices.Equal(a.Sessions, b.Sessions) && a.Next == b.Next
}

func sessionOf(d impl.Desk, id int) (impl.Session, bool) {
	for _, s := range d.Sessions {
		if s.Id == id {
			return s, true
		}
	}
	return impl.Session{}, false
}

func withoutSession(d impl.Desk, id int) impl.Desk {
	d = cloneDesk(d)
	d.Sessions = slices.DeleteFunc(d.Sessions, func(s impl.Session) bool { return s.Id == id })
	return d
}

// withSession takes the place of the session of this Id.
func withSession(d impl.Desk, s impl.Session) impl.Desk {
	d = cloneDesk(d)
	for i := range d.Sessions {
		if d.Sessions[i].Id == s.Id {
			d.Sessions[i] = s
		}
	}
	return d
}

func openWanted(d impl.Desk, until int) (impl.Desk, int) {
	if !deskRight(d) || len(d.Sessions) == mostSessions || d.Next == lastNext || !isWithin(until, 0, lastTime) {
		return d, 0
	}
	id := d.Next
	d = cloneDesk(d)
	d.Sessions = append(d.Sessions, impl.Session{Id: id, Until: until})
	d.Next = id + 1
	return d, id
}

func closeWanted(d impl.Desk, id int) (impl.Desk, bool) {
	if _, there := sessionOf(d, id); !there || !deskRight(d) {
		return d, false
	}
	return withoutSession(d, id), true
}

func askWanted(d impl.Desk, id int, seq int) (int, string) {
	s, there := sessionOf(d, id)
	switch {
	case !there || !deskRight(d):
		return impl.SeqNone, ""
	case seq < 1 || seq < s.Last:
		return impl.SeqOld, ""
	case seq == s.Last:
		return impl.SeqAgain, s.Reply
	case seq-1 == s.Last:
		return impl.SeqNew, ""
	}
	return impl.SeqGap, ""
}

func answerWanted(d impl.Desk, id int, seq int, reply string, until int) (impl.Desk, bool) {
	code, _ := askWanted(d, id, seq)
	if code != impl.SeqNew || len(reply) > longestReply || !isWithin(until, 0, lastTime) {
		return d, false
	}
	s, _ := sessionOf(d, id)
	s.Last, s.Reply = seq, reply
	if until > s.Until {
		s.Until = until
	}
	answered := withSession(d, s)
	if !deskRight(answered) {
		return d, false
	}
	return answered, true
}

func expireWanted(d impl.Desk, now int) (impl.Desk, []int) {
	gone := []int{}
	if !deskRight(d) {
		return d, gone
	}
	for _, s := range d.Sessions {
		if s.Until < now {
			gone = append(gone, s.Id)
		}
	}
	for _, id := range gone {
		d = withoutSession(d, id)
	}
	return d, gone
}

// sessionsBehind stand in the spare room of lists that are handed in: read as theirs they would make each of them wrong.
func sessionsBehind() []impl.Session {
	return []impl.Session{{Id: -7, Last: -1, Reply: "behind", Until: -1}, {Id: 1, Until: 1}}
}

// scribbleDesk writes into all of a desk's memory, its spare room too.
func scribbleDesk(d impl.Desk) {
	for i := range d.Sessions[:cap(d.Sessions)] {
		d.Sessions[:cap(d.Sessions)][i] = impl.Session{Id: -i, Reply: "scribble"}
	}
}

// askedDesk hands d in with spare room behind its sessions, and fails if the call changes them or the room, or answers any of their memory.
func askedDesk(t *testing.T, d impl.Desk, call func(impl.Desk) impl.Desk) impl.Desk {
	t.Helper()
	room := slices.Concat(d.Sessions, sessionsBehind())
	kept := slices.Clone(room)
	given := d
	given.Sessions = room[:len(d.Sessions)]
	answer := call(given)
	if !slices.Equal(room, kept) {
		t.Fatalf("the desk %v was changed, or what stands behind: %v", d, room)
	}
	copied := cloneDesk(answer)
	scribbleDesk(answer)
	if !slices.Equal(room, kept) {
		t.Fatalf("what was answered for %v has its memory", d)
	}
	return copied
}

func checkDesk(t *testing.T, d impl.Desk) bool {
	t.Helper()
	ok := false
	askedDesk(t, d, func(c impl.Desk) impl.Desk {
		ok = impl.DeskOk(c)
		return impl.Desk{}
	})
	if ok != deskRight(d) {
		t.Fatalf("DeskOk(%v) = %v", d, ok)
	}
	return ok
}

func checkOpen(t *testing.T, d impl.Desk, until int) (impl.Desk, int) {
	t.Helper()
	id := -1
	got := askedDesk(t, d, func(c impl.Desk) (answer impl.Desk) {
		answer, id = impl.OpenSession(c, until)
		return answer
	})
	if want, n := openWanted(d, until); id != n || !sameDesk(got, want) {
		t.Fatalf("OpenSession(%v, %d) = %v, %d, not %v, %d", d, until, got, id, want, n)
	}
	return got, id
}

func checkClose(t *testing.T, d impl.Desk, id int) (impl.Desk, bool) {
	t.Helper()
	ok := false
	got := askedDesk(t, d, func(c impl.Desk) (answer impl.Desk) {
		answer, ok = impl.CloseSession(c, id)
		return answer
	})
	if want, there := closeWanted(d, id); ok != there || !sameDesk(got, want) {
		t.Fatalf("CloseSession(%v, %d) = %v, %v, not %v, %v", d, id, got, ok, want, there)
	}
	return got, ok
}

func checkAsk(t *testing.T, d impl.Desk, id int, seq int) (int, string) {
	t.Helper()
	code, reply := -1, ""
	askedDesk(t, d, func(c impl.Desk) impl.Desk {
		code, reply = impl.Ask(c, id, seq)
		return impl.Desk{}
	})
	if n, s := askWanted(d, id, seq); code != n || reply != s {
		t.Fatalf("Ask(%v, %d, %d) = %d, %q, not %d, %q", d, id, seq, code, reply, n, s)
	}
	return code, reply
}

func checkAnswer(t *testing.T, d impl.Desk, id int, seq int, reply string, until int) (impl.Desk, bool) {
	t.Helper()
	ok := false
	got := askedDesk(t, d, func(c impl.Desk) (answer impl.Desk) {
		answer, ok = impl.Answer(c, id, seq, reply, until)
		return answer
	})
	if want, taken := answerWanted(d, id, seq, reply, until); ok != taken || !sameDesk(got, want) {
		t.Fatalf("Answer(%v, %d, %d, %q, %d) = %v, %v, not %v, %v", d, id, seq, reply, until, got, ok, want, taken)
	}
	return got, ok
}

func checkExpire(t *testing.T, d impl.Desk, now int) (impl.Desk, []int) {
	t.Helper()
	gone := []int{}
	got := askedDesk(t, d, func(c impl.Desk) (answer impl.Desk) {
		answer, gone = impl.ExpireSessions(c, now)
		return answer
	})
	if want, list := expireWanted(d, now); !slices.Equal(gone, list) || !sameDesk(got, want) {
		t.Fatalf("ExpireSessions(%v, %d) = %v, %v, not %v, %v", d, now, got, gone, want, list)
	}
	return got, gone
}

// deskOfTexts reads sessions, each an Id, `=`, its Last, its Reply and its Until with `,` between, as they stand.
func deskOfTexts(t *testing.T, sessions string, next int) impl.Desk {
	t.Helper()
	d := impl.Desk{Next: next}
	for _, text := range strings.Fields(sessions) {
		ahead, rest, _ := strings.Cut(text, "=")
		parts := strings.Split(rest, ",")
		if len(parts) != 3 {
			t.Fatal("no session:", text)
		}
		id, noId := strconv.Atoi(ahead)
		last, noLast := strconv.Atoi(parts[0])
		until, noUntil := strconv.Atoi(parts[2])
		if noId != nil || noLast != nil || noUntil != nil {
			t.Fatal("no session:", text)
		}
		d.Sessions = append(d.Sessions, impl.Session{Id: id, Last: last, Reply: parts[1], Until: until})
	}
	return d
}

// deskTexts writes the sessions, and Next behind them.
func deskTexts(d impl.Desk) string {
	texts := []string{}
	for _, s := range d.Sessions {
		texts = append(texts, fmt.Sprintf("%d=%d,%s,%d", s.Id, s.Last, s.Reply, s.Until))
	}
	return strings.Join(append(texts, strconv.Itoa(d.Next)), " ")
}

// sessionsOf is a desk of so many sessions, with gaps between their Ids; the first of three was never asked, each lives to a time of its own.
func sessionsOf(count int) impl.Desk {
	d := impl.Desk{Next: 3*count + 5}
	for i := range count {
		s := impl.Session{Id: 3*i + 2, Last: i % 3 * 4, Until: 100 + i*7%30}
		if s.Last > 0 {
			s.Reply = "reply-" + strconv.Itoa(i)
		}
		d.Sessions = append(d.Sessions, s)
	}
	return d
}

func TestSessionConstants(t *testing.T) {
	if impl.MaxSessions != mostSessions {
		t.Error(impl.MaxSessions)
	}
	codes := []int{impl.SeqNew, impl.SeqAgain, impl.SeqOld, impl.SeqGap, impl.SeqNone}
	if !slices.Equal(codes, []int{0, 1, 2, 3, 4}) {
		t.Error(codes)
	}
}

func TestDeskOkTable(t *testing.T) {
	for _, c := range []struct {
		sessions string
		next     int
		want     bool
	}{
		{"", 1, true},
		{"", 2, true},
		{"1=0,,0", 2, true},
		{"1=0,,50", 7, true},
		{"1=3,ok,50 2=0,,20 6=1,,0", 7, true},
		{"999998=1,a,1 999999=1,b,1", lastNext, true},
		// Next at its bounds, and outside.
		{"", lastNext - 1, true},
		{"", lastNext, true},
		{"", lastNext + 1, false},
		{"", math.MaxInt, false},
		{"", 0, false},
		{"", -1, false},
		{"", math.MinInt, false},
		{"1=0,,0", lastNext + 1, false},
		{"-5=0,,0", 0, false},
		{"-5=0,,0", -1, false},
		// Ids that are not below Next, or below 1.
		{"1=0,,0", 1, false},
		{"2=0,,0", 1, false},
		{"0=0,,0", 1, false},
		{"0=0,,0", 2, false},
		{"-1=0,,0", 2, false},
		{"-9223372036854775808=0,,0", 2, false},
		{"9223372036854775807=0,,0", 2, false},
		{"999999=0,,0", lastNext, true},
		{"1000000=0,,0", lastNext, false},
		{"1000000=0,,0", lastNext + 1, false},
		{"1=0,,0 7=0,,0", 7, false},
		{"1=0,,0 6=0,,0", 7, true},
		{"0=0,,0 1=0,,0", 7, false},
		// Ids that do not ascend.
		{"2=0,,0 1=0,,0", 7, false},
		{"1=0,,0 1=0,,0", 7, false},
		{"1=0,,0 3=0,,0 2=0,,0", 7, false},
		{"1=0,,0 3=0,,0 1=0,,0", 7, false},
		{"1=0,,0 3=0,,0 3=0,,0", 7, false},
		{"2=0,,0 1=0,,0 3=0,,0", 7, false},
		// Last at its bounds, and outside.
		{"1=1,,0", 2, true},
		{"1=999999,a,0", 2, true},
		{"1=1000000,a,0", 2, true},
		{"1=1000001,a,0", 2, false},
		{"1=9223372036854775807,a,0", 2, false},
		{"1=-1,,0", 2, false},
		{"1=-1,a,0", 2, false},
		{"1=-9223372036854775808,,0", 2, false},
		{"1=0,,0 2=1000001,a,0", 3, false},
		{"1=1000001,a,0 2=0,,0", 3, false},
		// A reply is there with Last 0.
		{"1=0,a,0", 2, false},
		{"1=1,a,0", 2, true},
		{"1=1,,0 2=0,a,0", 3, false},
		{"1=0,a,0 2=1,a,0", 3, false},
		// Until at its bounds, and outside.
		{"1=0,,1", 2, true},
		{"1=0,,-1", 2, false},
		{"1=0,,-9223372036854775808", 2, false},
		{"1=0,,999999999", 2, true},
		{"1=0,,1000000000", 2, true},
		{"1=0,,1000000001", 2, false},
		{"1=0,,9223372036854775807", 2, false},
		{"1=0,,0 2=0,,-1", 3, false},
		{"1=0,,1000000001 2=0,,0", 3, false},
	} {
		if got := checkDesk(t, deskOfTexts(t, c.sessions, c.next)); got != c.want {
			t.Errorf("DeskOk(%s; %d) = %v", c.sessions, c.next, got)
		}
	}
	if impl.DeskOk(impl.Desk{}) || !impl.DeskOk(impl.Desk{Sessions: []impl.Session{}, Next: 1}) {
		t.Error("the zero desk, or the empty one")
	}
}

// Each field of each session of a full desk, at and around its bounds, and with the values that another session has.
func TestDeskOkEachField(t *testing.T) {
	d := sessionsOf(mostSessions)
	if !checkDesk(t, d) {
		t.Fatal("not right:", d)
	}
	counts := map[bool]int{}
	for place := range d.Sessions {
		look := func(change func(*impl.Session)) {
			c := cloneDesk(d)
			change(&c.Sessions[place])
			counts[checkDesk(t, c)]++
		}
		for id := -2; id <= d.Next+2; id++ {
			look(func(s *impl.Session) { s.Id = id })
		}
		for _, n := range []int{math.MinInt, math.MinInt + 1, -1, 0, 1, 2, lastSeq - 1, lastSeq, lastSeq + 1, lastTime - 1, lastTime, lastTime + 1, 1 << 32, math.MaxInt} {
			look(func(s *impl.Session) { s.Id = n })
			look(func(s *impl.Session) { s.Last = n })
			look(func(s *impl.Session) { s.Last, s.Reply = n, "" })
			look(func(s *impl.Session) { s.Until = n })
		}
		for _, reply := range replies() {
			look(func(s *impl.Session) { s.Reply = reply })
			look(func(s *impl.Session) { s.Last, s.Reply = 0, reply })
			look(func(s *impl.Session) { s.Last, s.Reply = 1, reply })
		}
	}
	if counts[true] < 300 || counts[false] < 1000 {
		t.Error("the desks are too much alike:", counts)
	}
}

// replies are texts of 0 to 200 bytes, and of more; some have fewer runes than bytes, some are no runes at all.
func replies() []string {
	list := []string{"", "a", "ok", " ", "\x00", "\xff", "ä", "ok 10.0.0.0/26", "error session"}
	for _, n := range []int{longestReply - 1, longestReply, longestReply + 1, 2 * longestReply, 20000} {
		list = append(list, strings.Repeat("a", n), strings.Repeat("\x00", n), strings.Repeat("\xff", n))
	}
	for _, n := range []int{longestReply/2 - 1, longestReply / 2, longestReply/2 + 1, longestReply} {
		list = append(list, strings.Repeat("ä", n))
	}
	return list
}

// Every row of up to three sessions of few Ids, Lasts and replies.
func TestDeskOkEveryRow(t *testing.T) {
	kinds := []impl.Session{}
	for id := range 5 {
		kinds = append(kinds, impl.Session{Id: id}, impl.Session{Id: id, Last: 1, Reply: "a"}, impl.Session{Id: id, Reply: "a"})
	}
	counts := map[bool]int{}
	for next := range 6 {
		for _, a := range kinds {
			counts[checkDesk(t, impl.Desk{Sessions: []impl.Session{a}, Next: next})]++
			for _, b := range kinds {
				counts[checkDesk(t, impl.Desk{Sessions: []impl.Session{a, b}, Next: next})]++
				for _, c := range kinds {
					counts[checkDesk(t, impl.Desk{Sessions: []impl.Session{a, b, c}, Next: next})]++
				}
			}
		}
	}
	if counts[true] < 50 || counts[false] < 1000 {
		t.Error("the desks are too much alike:", counts)
	}
}

func TestDeskOkMost(t *testing.T) {
	for count := range 40 {
		if got := checkDesk(t, sessionsOf(count)); got != (count <= mostSessions) {
			t.Error(count, "sessions:", got)
		}
	}
}

func TestOpenSessionTable(t *testing.T) {
	for _, c := range []struct {
		sessions    string
		next, until int
		want        string
		id          int
	}{
		{"", 1, 50, "1=0,,50 2", 1},
		{"", 7, 50, "7=0,,50 8", 7},
		{"1=3,ok,50", 2, 50, "1=3,ok,50 2=0,,50 3", 2},
		{"1=3,ok,50", 9, 20, "1=3,ok,50 9=0,,20 10", 9},
		{"2=3,ok,50 4=0,,7", 5, 0, "2=3,ok,50 4=0,,7 5=0,,0 6", 5},
		// Until at its bounds, and outside.
		{"", 1, -1, "1", 0},
		{"", 1, math.MinInt, "1", 0},
		{"", 1, 0, "1=0,,0 2", 1},
		{"", 1, 1, "1=0,,1 2", 1},
		{"", 1, lastTime - 1, "1=0,,999999999 2", 1},
		{"", 1, lastTime, "1=0,,1000000000 2", 1},
		{"", 1, lastTime + 1, "1", 0},
		{"", 1, math.MaxInt, "1", 0},
		{"1=3,ok,50", 2, -1, "1=3,ok,50 2", 0},
		{"1=3,ok,50", 2, lastTime + 1, "1=3,ok,50 2", 0},
		// Next at its bounds, and outside.
		{"", 0, 5, "0", 0},
		{"", -1, 5, "-1", 0},
		{"", lastNext - 1, 5, "999999=0,,5 1000000", lastNext - 1},
		{"", lastNext, 5, "1000000", 0},
		{"", lastNext + 1, 5, "1000001", 0},
		{"", math.MaxInt, 5, "9223372036854775807", 0},
		{"1=0,,5", lastNext - 1, 5, "1=0,,5 999999=0,,5 1000000", lastNext - 1},
		{"1=0,,5", lastNext, 5, "1=0,,5 1000000", 0},
		{"999999=0,,5", lastNext, 5, "999999=0,,5 1000000", 0},
	} {
		d, id := checkOpen(t, deskOfTexts(t, c.sessions, c.next), c.until)
		if got := deskTexts(d); got != c.want || id != c.id {
			t.Errorf("OpenSession(%s; %d, %d) = %s, %d", c.sessions, c.next, c.until, got, id)
		}
	}
}

// Up to MaxSessions are opened, and none more until one is gone; an Id never comes back.
func TestOpenMost(t *testing.T) {
	d := impl.Desk{Next: 1}
	for i := range mostSessions {
		c, id := checkOpen(t, d, i)
		if id != i+1 || len(c.Sessions) != i+1 || !checkDesk(t, c) {
			t.Fatal("opened:", i, id, c)
		}
		d = c
	}
	for _, until := range []int{-1, 0, 5, lastTime} {
		if c, id := checkOpen(t, d, until); id != 0 || !sameDesk(c, d) {
			t.Error("one more:", id, c)
		}
	}
	for _, id := range []int{12, 1, 6} {
		c, ok := checkClose(t, d, id)
		if !ok {
			t.Fatal("closed:", id)
		}
		c, next := checkOpen(t, c, 5)
		if next != d.Next || len(c.Sessions) != mostSessions {
			t.Fatal("opened:", next, c)
		}
		if _, again := checkOpen(t, c, 5); again != 0 {
			t.Error("one more:", again)
		}
		if code, _ := checkAsk(t, c, id, 1); code != impl.SeqNone {
			t.Error("the closed one:", id, code)
		}
		d = c
	}
	if c, gone := checkExpire(t, d, 4); !slices.Equal(gone, []int{2, 3, 4}) || len(c.Sessions) != mostSessions-3 {
		t.Error("gone:", gone)
	}
}

func TestOpenAtTheLastId(t *testing.T) {
	for count := range mostSessions + 1 {
		d := sessionsOf(count)
		d.Next = lastNext - 1
		c, id := checkOpen(t, d, 5)
		if count == mostSessions {
			if id != 0 || !sameDesk(c, d) {
				t.Error("opened a full one:", id)
			}
			continue
		}
		if id != lastNext-1 || c.Next != lastNext || !checkDesk(t, c) {
			t.Fatal("opened:", id, c)
		}
		if e, none := checkOpen(t, c, 5); none != 0 || !sameDesk(e, c) {
			t.Error("opened behind the last:", none)
		}
		if code, _ := checkAsk(t, c, lastNext-1, 1); code != impl.SeqNew {
			t.Error("asked the last:", code)
		}
		e, ok := checkClose(t, c, lastNext-1)
		if !ok || e.Next != lastNext {
			t.Error("closed the last:", ok, e)
		}
		if _, none := checkOpen(t, e, 5); none != 0 {
			t.Error("the last Id came back:", none)
		}
	}
}

func TestCloseSessionTable(t *testing.T) {
	const three = "2=3,ok,50 4=0,,7 6=1,,9"
	for _, c := range []struct {
		sessions string
		next, id int
		want     string
		ok       bool
	}{
		{three, 9, 2, "4=0,,7 6=1,,9 9", true},
		{three, 9, 4, "2=3,ok,50 6=1,,9 9", true},
		{three, 9, 6, "2=3,ok,50 4=0,,7 9", true},
		{"8=0,,0", 9, 8, "9", true},
		{three, 9, 0, three + " 9", false},
		{three, 9, 1, three + " 9", false},
		{three, 9, 3, three + " 9", false},
		{three, 9, 5, three + " 9", false},
		{three, 9, 7, three + " 9", false},
		{three, 9, 8, three + " 9", false},
		{three, 9, 9, three + " 9", false},
		{three, 9, -2, three + " 9", false},
		{three, 9, math.MinInt, three + " 9", false},
		{three, 9, math.MaxInt, three + " 9", false},
		{"", 1, 0, "1", false},
		{"", 1, 1, "1", false},
		{"", 5, 4, "5", false},
		{"999999=0,,0", lastNext, 999999, "1000000", true},
	} {
		d, ok := checkClose(t, deskOfTexts(t, c.sessions, c.next), c.id)
		if got := deskTexts(d); got != c.want || ok != c.ok {
			t.Errorf("CloseSession(%s; %d, %d) = %s, %v", c.sessions, c.next, c.id, got, ok)
		}
	}
}

func TestCloseEachAndTwice(t *testing.T) {
	for count := 1; count <= mostSessions; count++ {
		d := sessionsOf(count)
		for _, s := range d.Sessions {
			c, ok := checkClose(t, d, s.Id)
			if !ok || len(c.Sessions) != count-1 || c.Next != d.Next || !checkDesk(t, c) {
				t.Fatal("closed:", s, c, ok)
			}
			if e, again := checkClose(t, c, s.Id); again || !sameDesk(e, c) {
				t.Error("closed twice:", s)
			}
			for _, k := range d.Sessions {
				code, reply := checkAsk(t, c, k.Id, k.Last)
				switch {
				case k.Id == s.Id && code != impl.SeqNone:
					t.Error("closed, and asked:", k, code)
				case k.Id != s.Id && k.Last > 0 && (code != impl.SeqAgain || reply != k.Reply):
					t.Error("another was closed:", k, code, reply)
				}
			}
		}
	}
}

func TestAskTable(t *testing.T) {
	const desk = "2=3,ok,50 4=0,,7 6=1,,9 7=1000000,last,9"
	for _, c := range []struct {
		id, seq, code int
		reply         string
	}{
		{2, 3, impl.SeqAgain, "ok"},
		{2, 4, impl.SeqNew, ""},
		{2, 5, impl.SeqGap, ""},
		{2, 6, impl.SeqGap, ""},
		{2, math.MaxInt, impl.SeqGap, ""},
		{2, 2, impl.SeqOld, ""},
		{2, 1, impl.SeqOld, ""},
		{2, 0, impl.SeqOld, ""},
		{2, -1, impl.SeqOld, ""},
		{2, -3, impl.SeqOld, ""},
		{2, math.MinInt, impl.SeqOld, ""},
		// A session that was never asked has no number to be asked again.
		{4, 0, impl.SeqOld, ""},
		{4, 1, impl.SeqNew, ""},
		{4, 2, impl.SeqGap, ""},
		{4, -1, impl.SeqOld, ""},
		{4, math.MinInt, impl.SeqOld, ""},
		{4, math.MaxInt, impl.SeqGap, ""},
		// An empty reply is one, too.
		{6, 0, impl.SeqOld, ""},
		{6, 1, impl.SeqAgain, ""},
		{6, 2, impl.SeqNew, ""},
		{6, 3, impl.SeqGap, ""},
		{7, lastSeq - 1, impl.SeqOld, ""},
		{7, lastSeq, impl.SeqAgain, "last"},
		{7, lastSeq + 1, impl.SeqNew, ""},
		{7, lastSeq + 2, impl.SeqGap, ""},
		// No such session, whatever is asked.
		{1, 1, impl.SeqNone, ""},
		{3, 3, impl.SeqNone, ""},
		{5, 0, impl.SeqNone, ""},
		{0, 0, impl.SeqNone, ""},
		{0, 1, impl.SeqNone, ""},
		{8, 1, impl.SeqNone, ""},
		{9, 1, impl.SeqNone, ""},
		{-2, 3, impl.SeqNone, ""},
		{math.MinInt, 1, impl.SeqNone, ""},
		{math.MaxInt, math.MaxInt, impl.SeqNone, ""},
	} {
		if code, reply := checkAsk(t, deskOfTexts(t, desk, 9), c.id, c.seq); code != c.code || reply != c.reply {
			t.Errorf("Ask(.., %d, %d) = %d, %q", c.id, c.seq, code, reply)
		}
	}
	for _, next := range []int{1, 9, lastNext} {
		for id := -1; id <= 10; id++ {
			if code, reply := checkAsk(t, impl.Desk{Next: next}, id, 1); code != impl.SeqNone || reply != "" {
				t.Error("an empty desk:", next, id, code, reply)
			}
		}
	}
}

// Numbers around each Last, at each place of a full desk.
func TestAskAroundLast(t *testing.T) {
	for place := range mostSessions {
		for _, last := range []int{0, 1, 2, 3, 127, 128, 65536, lastSeq - 2, lastSeq - 1, lastSeq} {
			d := sessionsOf(mostSessions)
			s := &d.Sessions[place]
			s.Last, s.Reply = last, ""
			if last > 0 {
				s.Reply = "this one"
			}
			for _, c := range []struct{ seq, code int }{
				{last + 1, impl.SeqNew},
				{last + 2, impl.SeqGap},
				{last + 3, impl.SeqGap},
				{last + 1 + 1<<32, impl.SeqGap},
				{math.MaxInt, impl.SeqGap},
				{last - 1, impl.SeqOld},
				{last - 2, impl.SeqOld},
				{-last - 1, impl.SeqOld},
				{last + math.MinInt, impl.SeqOld},
				{0, impl.SeqOld},
				{-1, impl.SeqOld},
				{math.MinInt, impl.SeqOld},
			} {
				if code, reply := checkAsk(t, d, s.Id, c.seq); code != c.code || reply != "" {
					t.Fatalf("Last %d: Ask(.., %d) = %d, %q", last, c.seq, code, reply)
				}
			}
			want := impl.SeqAgain
			if last == 0 {
				want = impl.SeqOld
			}
			if code, reply := checkAsk(t, d, s.Id, last); code != want || reply != s.Reply {
				t.Fatalf("Last %d: asked again %d, %q", last, code, reply)
			}
		}
	}
}

func TestAnswerTable(t *testing.T) {
	const desk = "2=3,ok,50 4=0,,7 6=1,,9"
	for _, c := range []struct {
		id, seq int
		reply   string
		until   int
		want    string
	}{
		{2, 4, "new", 40, "2=4,new,50 4=0,,7 6=1,,9"},
		{2, 4, "new", 49, "2=4,new,50 4=0,,7 6=1,,9"},
		{2, 4, "new", 50, "2=4,new,50 4=0,,7 6=1,,9"},
		{2, 4, "new", 51, "2=4,new,51 4=0,,7 6=1,,9"},
		{2, 4, "new", 90, "2=4,new,90 4=0,,7 6=1,,9"},
		{2, 4, "ok", 0, "2=4,ok,50 4=0,,7 6=1,,9"},
		{2, 4, "", 40, "2=4,,50 4=0,,7 6=1,,9"},
		{4, 1, "first", 6, "2=3,ok,50 4=1,first,7 6=1,,9"},
		{4, 1, "", 8, "2=3,ok,50 4=1,,8 6=1,,9"},
		{6, 2, "b", 9, "2=3,ok,50 4=0,,7 6=2,b,9"},
		{6, 2, "b", lastTime - 1, "2=3,ok,50 4=0,,7 6=2,b,999999999"},
		{6, 2, "b", lastTime, "2=3,ok,50 4=0,,7 6=2,b,1000000000"},
		// An until that is none, also where it would be the lesser one.
		{6, 2, "b", lastTime + 1, ""},
		{6, 2, "b", math.MaxInt, ""},
		{6, 2, "b", -1, ""},
		{6, 2, "b", math.MinInt, ""},
		// Not new.
		{2, 3, "ok", 40, ""},
		{2, 3, "new", 90, ""},
		{2, 2, "new", 90, ""},
		{2, 0, "new", 90, ""},
		{2, -1, "new", 90, ""},
		{2, 5, "new", 90, ""},
		{2, math.MaxInt, "new", 90, ""},
		{2, math.MinInt, "new", 90, ""},
		{4, 0, "", 90, ""},
		{4, 0, "new", 90, ""},
		{4, 2, "new", 90, ""},
		{4, -1, "new", 90, ""},
		// No such session.
		{0, 1, "new", 90, ""},
		{1, 1, "new", 90, ""},
		{3, 1, "new", 90, ""},
		{5, 2, "new", 90, ""},
		{7, 1, "new", 90, ""},
		{9, 1, "new", 90, ""},
		{-2, 4, "new", 90, ""},
		{math.MaxInt, 1, "new", 90, ""},
	} {
		want, taken := c.want, c.want != ""
		if !taken {
			want = desk
		}
		d, ok := checkAnswer(t, deskOfTexts(t, desk, 9), c.id, c.seq, c.reply, c.until)
		if got := deskTexts(d); got != want+" 9" || ok != taken {
			t.Errorf("Answer(.., %d, %d, %q, %d) = %s, %v", c.id, c.seq, c.reply, c.until, got, ok)
		}
	}
}

// A reply of up to 200 bytes is kept and comes back byte by byte, one that is longer is refused.
func TestRepliesAtTheirBounds(t *testing.T) {
	counts := map[bool]int{}
	for _, reply := range replies() {
		for _, d := range []impl.Desk{sessionsOf(1), sessionsOf(5), sessionsOf(mostSessions)} {
			for _, s := range d.Sessions {
				c, ok := checkAnswer(t, d, s.Id, s.Last+1, reply, 5)
				counts[ok]++
				if ok != (len(reply) <= longestReply) {
					t.Fatal(len(reply), "bytes:", ok)
				}
				if !ok {
					if !sameDesk(c, d) {
						t.Fatal("refused, and changed:", c)
					}
					continue
				}
				if code, again := checkAsk(t, c, s.Id, s.Last+1); code != impl.SeqAgain || again != reply || !checkDesk(t, c) {
					t.Fatalf("%q came back as %q (%d)", reply, again, code)
				}
			}
		}
	}
	if counts[true] < 100 || counts[false] < 100 {
		t.Error(counts)
	}
}

// The answer that brings Last to 1000000 is the last one: one more would be new, but is not taken.
func TestLastAtItsBound(t *testing.T) {
	for place := range 3 {
		d := sessionsOf(3)
		s := &d.Sessions[place]
		s.Last, s.Reply = lastSeq-2, "ahead"
		id := s.Id
		for _, seq := range []int{lastSeq - 1, lastSeq} {
			reply := "reply " + strconv.Itoa(seq)
			if code, _ := checkAsk(t, d, id, seq); code != impl.SeqNew {
				t.Fatal("asked:", seq, code)
			}
			c, ok := checkAnswer(t, d, id, seq, reply, 900)
			if !ok || c.Sessions[place].Last != seq || !checkDesk(t, c) {
				t.Fatal("answered:", seq, ok, c)
			}
			if code, again := checkAsk(t, c, id, seq); code != impl.SeqAgain || again != reply {
				t.Fatal("asked again:", seq, code, again)
			}
			d = c
		}
		if code, reply := checkAsk(t, d, id, lastSeq+1); code != impl.SeqNew || reply != "" {
			t.Error("asked for one more:", code, reply)
		}
		for _, reply := range []string{"", "one more"} {
			for _, until := range []int{0, 900, lastTime} {
				if c, ok := checkAnswer(t, d, id, lastSeq+1, reply, until); ok || !sameDesk(c, d) {
					t.Error("answered one more:", c)
				}
			}
		}
		if code, reply := checkAsk(t, d, id, lastSeq); code != impl.SeqAgain || reply != "reply 1000000" {
			t.Error("behind one more:", code, reply)
		}
	}
}

// An until that is less than, the same as or more than what the session has, at the bounds of time.
func TestUntilIsTheGreater(t *testing.T) {
	times := []int{0, 1, 2, 499, 500, 501, lastTime - 1, lastTime}
	for _, had := range times {
		for place := range mostSessions {
			d := sessionsOf(mostSessions)
			d.Sessions[place].Until = had
			s := d.Sessions[place]
			for _, until := range times {
				c, ok := checkAnswer(t, d, s.Id, s.Last+1, "r", until)
				if !ok || c.Sessions[place].Until != max(had, until) {
					t.Fatal("had", had, "told", until, ":", c.Sessions[place], ok)
				}
			}
			for _, until := range []int{math.MinInt, -1, lastTime + 1, math.MaxInt} {
				if c, ok := checkAnswer(t, d, s.Id, s.Last+1, "r", until); ok || !sameDesk(c, d) {
					t.Fatal("had", had, "told", until, ":", c.Sessions[place])
				}
			}
		}
	}
}

func TestExpireSessionsTable(t *testing.T) {
	const desk = "2=3,ok,50 4=0,,7 6=1,,50 7=0,,0 8=2,last,1000000000"
	for _, c := range []struct {
		now  int
		want string
		gone []int
	}{
		{math.MinInt, desk, nil},
		{-1, desk, nil},
		{0, desk, nil},
		{1, "2=3,ok,50 4=0,,7 6=1,,50 8=2,last,1000000000", []int{7}},
		{7, "2=3,ok,50 4=0,,7 6=1,,50 8=2,last,1000000000", []int{7}},
		{8, "2=3,ok,50 6=1,,50 8=2,last,1000000000", []int{4, 7}},
		{49, "2=3,ok,50 6=1,,50 8=2,last,1000000000", []int{4, 7}},
		{50, "2=3,ok,50 6=1,,50 8=2,last,1000000000", []int{4, 7}},
		{51, "8=2,last,1000000000", []int{2, 4, 6, 7}},
		{lastTime - 1, "8=2,last,1000000000", []int{2, 4, 6, 7}},
		{lastTime, "8=2,last,1000000000", []int{2, 4, 6, 7}},
		{lastTime + 1, "", []int{2, 4, 6, 7, 8}},
		{math.MaxInt, "", []int{2, 4, 6, 7, 8}},
	} {
		d, gone := checkExpire(t, deskOfTexts(t, desk, 9), c.now)
		if got := deskTexts(d); got != strings.TrimSpace(c.want+" 9") || !slices.Equal(gone, c.gone) {
			t.Errorf("ExpireSessions(.., %d) = %s, %v", c.now, got, gone)
		}
	}
	for _, now := range []int{math.MinInt, -1, 0, 1, lastTime, lastTime + 1, math.MaxInt} {
		if d, gone := checkExpire(t, impl.Desk{Next: 4}, now); len(gone) != 0 || d.Next != 4 || len(d.Sessions) != 0 {
			t.Error("an empty desk:", now, d, gone)
		}
	}
}

// Time one below each session's Until, at it, and one above: it goes by that alone, and lives on if it is answered ahead of it.
func TestSessionEnds(t *testing.T) {
	for count := 1; count <= mostSessions; count++ {
		d := sessionsOf(count)
		for _, s := range d.Sessions {
			for _, c := range []struct {
				now  int
				gone bool
			}{{s.Until - 1, false}, {s.Until, false}, {s.Until + 1, true}} {
				e, list := checkExpire(t, d, c.now)
				if slices.Contains(list, s.Id) != c.gone || len(e.Sessions)+len(list) != count || e.Next != d.Next {
					t.Fatal("at", c.now, s, "gone:", list)
				}
				want := impl.SeqNew
				if c.gone {
					want = impl.SeqNone
				}
				if code, _ := checkAsk(t, e, s.Id, s.Last+1); code != want {
					t.Fatal("at", c.now, s, "asked:", code)
				}
			}
			e, ok := checkAnswer(t, d, s.Id, s.Last+1, "on", s.Until+1)
			if !ok {
				t.Fatal("not answered:", s)
			}
			if _, list := checkExpire(t, e, s.Until+1); slices.Contains(list, s.Id) {
				t.Error("gone, though answered:", s)
			}
			if _, list := checkExpire(t, e, s.Until+2); !slices.Contains(list, s.Id) {
				t.Error("not gone:", s)
			}
		}
	}
}

// wrongDesks are none of them DeskOk, by their names.
func wrongDesks(t *testing.T) map[string]impl.Desk {
	const two = "2=3,ok,50 4=0,,7"
	long := deskOfTexts(t, two, 9)
	long.Sessions[0].Reply = strings.Repeat("a", longestReply+1)
	broad := deskOfTexts(t, two, 9)
	broad.Sessions[0].Reply = strings.Repeat("ä", longestReply/2+1)
	nearly := sessionsOf(mostSessions - 1)
	nearly.Next = lastNext + 1
	return map[string]impl.Desk{
		"zero":                       {},
		"Next 0":                     deskOfTexts(t, "", 0),
		"Next -1":                    deskOfTexts(t, "", -1),
		"Next least":                 deskOfTexts(t, two, math.MinInt),
		"Next one more":              deskOfTexts(t, "", lastNext+1),
		"Next most":                  deskOfTexts(t, two, math.MaxInt),
		"Next one more, nearly full": nearly,
		"Id is Next":                 deskOfTexts(t, two, 4),
		"Id above Next":              deskOfTexts(t, two, 3),
		"Id 0":                       deskOfTexts(t, "0=1,ok,5 2=0,,5", 9),
		"Id 0 alone":                 deskOfTexts(t, "0=0,,5", 1),
		"Id below 0":                 deskOfTexts(t, "-2=3,ok,50 4=0,,7", 9),
		"Ids fall":                   deskOfTexts(t, "4=0,,7 2=3,ok,50", 9),
		"Ids fall late":              deskOfTexts(t, "1=0,,7 4=0,,7 2=3,ok,50", 9),
		"Ids twice":                  deskOfTexts(t, "2=3,ok,50 2=3,ok,50", 9),
		"Ids twice, apart":           deskOfTexts(t, "2=3,ok,50 4=0,,7 2=3,ok,50", 9),
		"Last one more":              deskOfTexts(t, "2=1000001,ok,50 4=0,,7", 9),
		"Last most":                  deskOfTexts(t, "2=9223372036854775807,ok,50 4=0,,7", 9),
		"Last below 0":               deskOfTexts(t, "2=-1,,50 4=0,,7", 9),
		"Last below 0, behind":       deskOfTexts(t, "2=3,ok,50 4=-1,,7", 9),
		"Last least":                 deskOfTexts(t, "2=-9223372036854775808,,50", 9),
		"Until below 0":              deskOfTexts(t, "2=3,ok,-1 4=0,,7", 9),
		"Until below 0, behind":      deskOfTexts(t, "2=3,ok,50 4=0,,-1", 9),
		"Until one more":             deskOfTexts(t, "2=3,ok,1000000001 4=0,,7", 9),
		"reply with Last 0":          deskOfTexts(t, "2=3,ok,50 4=0,ok,7", 9),
		"reply too long":             long,
		"reply too long in bytes":    broad,
		"too many":                   sessionsOf(mostSessions + 1),
		"far too many":               sessionsOf(500),
	}
}

// Of a desk that is not right nothing is opened, closed, answered or expired, and nobody has a session.
func TestWrongDesks(t *testing.T) {
	times := []int{math.MinInt, -1, 0, 1, 7, 8, 50, 51, lastTime, lastTime + 1, math.MaxInt}
	for name, d := range wrongDesks(t) {
		if checkDesk(t, d) {
			t.Fatal("right:", name)
		}
		ids := []int{math.MinInt, -2, -1, 0, 1, 2, 3, 4, 9, lastNext, math.MaxInt}
		for i := 0; i < len(d.Sessions); i += 5 {
			ids = append(ids, d.Sessions[i].Id)
		}
		for _, id := range ids {
			if c, ok := checkClose(t, d, id); ok || !sameDesk(c, d) {
				t.Error("CloseSession:", name, id, ok)
			}
			s, _ := sessionOf(d, id)
			for _, seq := range []int{math.MinInt, -1, 0, 1, 2, 3, 4, s.Last - 1, s.Last, s.Last + 1, s.Last + 2, math.MaxInt} {
				if code, reply := checkAsk(t, d, id, seq); code != impl.SeqNone || reply != "" {
					t.Error("Ask:", name, id, seq, code, reply)
				}
				for _, until := range []int{-1, 0, 50, lastTime} {
					if c, ok := checkAnswer(t, d, id, seq, "r", until); ok || !sameDesk(c, d) {
						t.Error("Answer:", name, id, seq, until)
					}
				}
			}
		}
		for _, n := range times {
			if c, id := checkOpen(t, d, n); id != 0 || !sameDesk(c, d) {
				t.Error("OpenSession:", name, n, id)
			}
			if c, gone := checkExpire(t, d, n); len(gone) != 0 || !sameDesk(c, d) {
				t.Error("ExpireSessions:", name, n, gone)
			}
		}
	}
}

// Each reason for which an Answer is refused, alone and beside the others: one is enough, and the desk is as it was.
func TestEachReasonRefuses(t *testing.T) {
	taken := 0
	for _, d := range []impl.Desk{sessionsOf(1), sessionsOf(7), sessionsOf(mostSessions)} {
		for _, id := range []int{d.Sessions[0].Id, d.Sessions[len(d.Sessions)-1].Id, 1, d.Next} {
			s, there := sessionOf(d, id)
			for step := -2; step <= 3; step++ {
				for _, length := range []int{0, longestReply, longestReply + 1} {
					for _, until := range []int{-1, 0, lastTime, lastTime + 1} {
						want := there && step == 1 && length <= longestReply && until >= 0 && until <= lastTime
						c, ok := checkAnswer(t, d, id, s.Last+step, strings.Repeat("r", length), until)
						if ok != want || !ok && !sameDesk(c, d) {
							t.Errorf("Answer(.., %d, Last %+d, %d bytes, %d) = %v", id, step, length, until, ok)
						}
						if ok {
							taken++
						}
					}
				}
			}
		}
	}
	if taken != 3*2*2*2 {
		t.Error("taken:", taken)
	}
}

// What was answered comes back each time that it is asked again, and is not answered twice, whatever the others do, until the next answer.
func TestAskedAgainIsTheSame(t *testing.T) {
	d := impl.Desk{Next: 1}
	for range 3 {
		d, _ = checkOpen(t, d, 500)
	}
	for seq := 1; seq <= 30; seq++ {
		reply := strings.Repeat("r", seq%4) + strings.Repeat("x", seq/4)
		c, ok := checkAnswer(t, d, 2, seq, reply, 500)
		if !ok {
			t.Fatal("not answered:", seq)
		}
		others := []impl.Desk{c}
		for _, change := range []func(impl.Desk) impl.Desk{
			func(e impl.Desk) impl.Desk { e, _ = checkOpen(t, e, 7); return e },
			func(e impl.Desk) impl.Desk { e, _ = checkAnswer(t, e, 1, seq, "other", 900); return e },
			func(e impl.Desk) impl.Desk { e, _ = checkAnswer(t, e, 3, 1, "third", 0); return e },
			func(e impl.Desk) impl.Desk { e, _ = checkClose(t, e, 3); return e },
			func(e impl.Desk) impl.Desk { e, _ = checkExpire(t, e, 500); return e },
			func(e impl.Desk) impl.Desk { e, _ = checkAnswer(t, e, 2, seq, "twice", 900); return e },
			func(e impl.Desk) impl.Desk { e, _ = checkAnswer(t, e, 2, seq+2, "gap", 900); return e },
		} {
			others = append(others, change(others[len(others)-1]))
		}
		for i, e := range others {
			for range 2 {
				if code, again := checkAsk(t, e, 2, seq); code != impl.SeqAgain || again != reply {
					t.Fatalf("%d, behind change %d: %d, %q", seq, i, code, again)
				}
			}
			if code, again := checkAsk(t, e, 2, seq-1); code != impl.SeqOld || again != "" {
				t.Fatal("the one ahead:", seq, code, again)
			}
			if f, twice := checkAnswer(t, e, 2, seq, reply, 500); twice || !sameDesk(f, e) {
				t.Fatal("answered twice:", seq)
			}
		}
		d, _ = checkAnswer(t, c, 1, seq, "other", 500)
	}
}

// deskWalker goes on from desk to desk by any calls, each held against the plain search.
type deskWalker struct {
	chance *rand.Rand
	desk   impl.Desk
	now    int
	seen   map[string]int
	// What each session was answered, by its numbers from 1 on (or from where it began); closed and expired ones stay here.
	told map[int]map[int]string
	last int
}

func (w *deskWalker) someId() int {
	n := w.chance.Intn(20)
	switch {
	case n == 0:
		return []int{math.MinInt, -1, 0, w.desk.Next, w.desk.Next + 1, math.MaxInt}[w.chance.Intn(6)]
	case n < 17 && len(w.desk.Sessions) > 0:
		return w.desk.Sessions[w.chance.Intn(len(w.desk.Sessions))].Id
	}
	return w.desk.Next - w.chance.Intn(15)
}

func (w *deskWalker) someSeq(id int) int {
	s, _ := sessionOf(w.desk, id)
	switch n := w.chance.Intn(20); {
	case n == 0:
		return []int{math.MinInt, -1, 0, lastSeq, lastSeq + 1, math.MaxInt}[w.chance.Intn(6)]
	case n < 12:
		return s.Last + 1
	}
	return s.Last + w.chance.Intn(6) - 2
}

func (w *deskWalker) someReply() string {
	if w.chance.Intn(20) == 0 {
		return strings.Repeat("z", longestReply+w.chance.Intn(3)-1)
	}
	return "r" + strconv.Itoa(w.chance.Intn(1000))
}

func (w *deskWalker) someUntil() int {
	if w.chance.Intn(20) == 0 {
		return []int{math.MinInt, -1, 0, lastTime + 1, math.MaxInt}[w.chance.Intn(5)]
	}
	return w.now + w.chance.Intn(60)
}

// step tells what was called and what it answered; weights say how often sessions come and go.
func (w *deskWalker) step(t *testing.T, weights [5]int) {
	t.Helper()
	n := w.chance.Intn(weights[0] + weights[1] + weights[2] + weights[3] + weights[4])
	id, what, before := w.someId(), "", w.desk
	switch {
	case n < weights[0]:
		opened := 0
		w.desk, opened = checkOpen(t, w.desk, w.someUntil())
		what = fmt.Sprint("open ", opened > 0)
		w.idGiven(t, opened)
	case n < weights[0]+weights[1]:
		ok := false
		w.desk, ok = checkClose(t, w.desk, id)
		what = fmt.Sprint("close ", ok)
	case n < weights[0]+weights[1]+weights[2]:
		code, _ := checkAsk(t, w.desk, id, w.someSeq(id))
		what = fmt.Sprint("ask ", code)
	case n < weights[0]+weights[1]+weights[2]+weights[3]:
		seq, reply, ok := w.someSeq(id), w.someReply(), false
		w.desk, ok = checkAnswer(t, w.desk, id, seq, reply, w.someUntil())
		what = fmt.Sprint("answer ", ok)
		if ok {
			w.answered(t, id, seq, reply)
		}
	default:
		w.now += w.chance.Intn(25)
		gone := []int{}
		w.desk, gone = checkExpire(t, w.desk, w.now)
		what = fmt.Sprint("expire ", min(len(gone), 2))
	}
	w.seen[what]++
	if strings.HasSuffix(what, "false") && !sameDesk(before, w.desk) {
		t.Fatalf("%s, and the desk changed: %v, %v", what, before, w.desk)
	}
	w.looked(t)
}

// idGiven fails if an Id does not rise above all that were given ahead of it.
func (w *deskWalker) idGiven(t *testing.T, id int) {
	t.Helper()
	if id == 0 {
		return
	}
	if id <= w.last {
		t.Fatalf("the Id %d behind %d", id, w.last)
	}
	w.last = id
	w.told[id] = map[int]string{}
}

// answered fails if a number of a session is answered a second time.
func (w *deskWalker) answered(t *testing.T, id int, seq int, reply string) {
	t.Helper()
	if was, twice := w.told[id][seq]; twice {
		t.Fatalf("%d of %d was answered %q, now %q", seq, id, was, reply)
	}
	w.told[id][seq] = reply
}

// looked asks each session for the number that it was answered last, and for all ahead.
func (w *deskWalker) looked(t *testing.T) {
	t.Helper()
	if !impl.DeskOk(w.desk) {
		t.Fatal("not right:", w.desk)
	}
	for _, s := range w.desk.Sessions {
		list := w.told[s.Id]
		for seq, reply := range list {
			code, again := impl.Ask(w.desk, s.Id, seq)
			switch {
			case seq == s.Last && (code != impl.SeqAgain || again != reply):
				t.Fatalf("%d of %d was answered %q, asked again %d, %q", seq, s.Id, reply, code, again)
			case seq != s.Last && (code != impl.SeqOld || again != ""):
				t.Fatalf("%d of %d, ahead of %d: %d, %q", seq, s.Id, s.Last, code, again)
			}
		}
	}
}

func TestDesksMovedByAnyCalls(t *testing.T) {
	seen := map[string]int{}
	for seed := range 48 {
		w := &deskWalker{chance: rand.New(rand.NewSource(int64(seed))), desk: impl.Desk{Next: 1}, seen: seen, told: map[int]map[int]string{}}
		weights := [5]int{4, 2, 8, 10, 2}
		switch seed % 4 {
		case 1: // a full desk
			weights = [5]int{20, 2, 6, 10, 1}
		case 2: // few sessions, which are asked again and again
			weights = [5]int{1, 1, 20, 30, 1}
		case 3: // near the end of Ids, of numbers and of time
			w.now = lastTime - 400
			w.desk.Next = lastNext - 30
			w.last = w.desk.Next - 1
			w.desk.Sessions = []impl.Session{{Id: 5, Last: lastSeq - 10, Reply: "far", Until: lastTime}}
			w.told[5] = map[int]string{lastSeq - 10: "far"}
		}
		for i := range 300 {
			w.step(t, weights)
			if i%20 == 0 {
				checkDesk(t, w.desk)
			}
		}
	}
	wanted := []string{"open true", "open false", "close true", "close false", "ask 0", "ask 1", "ask 2", "ask 3", "ask 4", "answer true", "answer false", "expire 0", "expire 1", "expire 2"}
	for _, s := range wanted {
		if seen[s] < 20 {
			t.Errorf("hardly ever seen: %s: %d", s, seen[s])
		}
	}
	if len(seen) != len(wanted) {
		t.Error("answers that are none of a call's:", seen)
	}
}

// A desk that only time moves loses its sessions behind their Untils: in one step or in many.
func TestSessionsEndByTime(t *testing.T) {
	chance := rand.New(rand.NewSource(71))
	for range 60 {
		start := impl.Desk{Next: 1 + chance.Intn(50)}
		for range 1 + chance.Intn(mostSessions) {
			start, _ = checkOpen(t, start, chance.Intn(40))
		}
		d := start
		for now := range 42 {
			ends := []int{}
			for _, s := range start.Sessions {
				if s.Until == now-1 {
					ends = append(ends, s.Id)
				}
			}
			c, gone := checkExpire(t, d, now)
			if !slices.Equal(gone, ends) {
				t.Fatal("at", now, "gone:", gone, "not", ends)
			}
			if e, _ := checkExpire(t, start, now); !sameDesk(e, c) {
				t.Fatal("in one step:", e, "in many:", c)
			}
			if again, none := checkExpire(t, c, now); len(none) != 0 || !sameDesk(again, c) {
				t.Fatal("the same time again:", again, none)
			}
			d = c
		}
		if len(d.Sessions) != 0 || d.Next != start.Next {
			t.Fatal("left:", d)
		}
	}
}

// What was answered stays, whatever happens to what was handed in, and a second call answers the same.
func TestDesksStayApart(t *testing.T) {
	for name, call := range map[string]func(impl.Desk) (impl.Desk, int){
		"open":         func(d impl.Desk) (impl.Desk, int) { return impl.OpenSession(d, 5) },
		"open not":     func(d impl.Desk) (impl.Desk, int) { return impl.OpenSession(d, -1) },
		"close first":  func(d impl.Desk) (impl.Desk, int) { return counted(impl.CloseSession(d, 2)) },
		"close last":   func(d impl.Desk) (impl.Desk, int) { return counted(impl.CloseSession(d, 6)) },
		"close none":   func(d impl.Desk) (impl.Desk, int) { return counted(impl.CloseSession(d, 3)) },
		"answer":       func(d impl.Desk) (impl.Desk, int) { return counted(impl.Answer(d, 2, 4, "new", 90)) },
		"answer first": func(d impl.Desk) (impl.Desk, int) { return counted(impl.Answer(d, 4, 1, "new", 5)) },
		"answer twice": func(d impl.Desk) (impl.Desk, int) { return counted(impl.Answer(d, 2, 3, "new", 90)) },
		"answer none":  func(d impl.Desk) (impl.Desk, int) { return counted(impl.Answer(d, 3, 1, "new", 90)) },
		"answer late":  func(d impl.Desk) (impl.Desk, int) { return counted(impl.Answer(d, 2, 4, "new", lastTime+1)) },
		"expire":       func(d impl.Desk) (impl.Desk, int) { c, gone := impl.ExpireSessions(d, 9); return c, len(gone) },
		"expire none":  func(d impl.Desk) (impl.Desk, int) { c, gone := impl.ExpireSessions(d, 7); return c, len(gone) },
		"expire all":   func(d impl.Desk) (impl.Desk, int) { c, gone := impl.ExpireSessions(d, 99); return c, len(gone) },
		"no sessions":  func(d impl.Desk) (impl.Desk, int) { d.Sessions = d.Sessions[:0]; return impl.OpenSession(d, 5) },
		"wrong":        func(d impl.Desk) (impl.Desk, int) { d.Next = 0; return impl.OpenSession(d, 5) },
		"wrong expire": func(d impl.Desk) (impl.Desk, int) {
			d.Next = 0
			c, gone := impl.ExpireSessions(d, 9)
			return c, len(gone)
		},
	} {
		given := deskOfTexts(t, "2=3,ok,50 4=0,,7 6=1,,9", 9)
		first, told := call(given)
		kept := cloneDesk(first)
		second, again := call(given)
		if told != again || !sameDesk(second, kept) {
			t.Error("called twice:", name, told, again)
		}
		scribbleDesk(second)
		if !sameDesk(first, kept) {
			t.Error("two answers share memory:", name)
		}
		scribbleDesk(given)
		if !sameDesk(first, kept) {
			t.Error("changed with what was handed in:", name)
		}
	}
	d := deskOfTexts(t, "2=3,ok,50 4=0,,7 6=1,,9", 9)
	_, gone := impl.ExpireSessions(d, 51)
	clear(gone[:cap(gone)])
	if _, again := impl.ExpireSessions(d, 51); !slices.Equal(again, []int{2, 4, 6}) {
		t.Error("gone:", again)
	}
}

// counted tells true as 1.
func counted(d impl.Desk, ok bool) (impl.Desk, int) {
	if ok {
		return d, 1
	}
	return d, 0
}
