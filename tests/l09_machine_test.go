package tests

import (
	"fmt"
	"math"
	"math/rand"
	"slices"
	"strconv"
	"strings"
	"testing"

	"loop.example/g00113/impl"
)

const sessionLife = 500

// ownsAddr tells whether a lies in a block that this owner has.
func ownsAddr(p impl.Plan, a impl.Addr, owner string) bool {
	b, there := blockWanted(p, true, a)
	return there && b.Owner == owner
}

// stateRight says of a state what the document does, one thing after the other.
func stateRight(s impl.State) bool {
	if !planRight(s.Plan) || !bookRight(s.Book) || !deskRight(s.Desk) || s.Count < 0 {
		return false
	}
	for _, l := range s.Book.Leases {
		if !ownsAddr(s.Plan, l.At, l.Owner) {
			return false
		}
	}
	return true
}

func cloneState(s impl.State) impl.State {
	return impl.State{Plan: clonePlan(s.Plan), Book: cloneBook(s.Book), Desk: cloneDesk(s.Desk), Count: s.Count}
}

// isSameState takes a list without elements and nil for the same.
func isSameState(a impl.State, b impl.State) bool {
	return samePlan(a.Plan, b.Plan) && sameBook(a.Book, b.Book) && sameDesk(a.Desk, b.Desk) && a.Count == b.Count
}

func endWanted(now int) int {
	if now > lastTime-sessionLife {
		return lastTime
	}
	return now + sessionLife
}

func leasedWanted(b impl.Book, at impl.Prefix) []impl.Addr {
	list := []impl.Addr{}
	for _, l := range b.Leases {
		if lies(impl.Prefix{At: l.At, Bits: widthOf(l.At.Six)}, at) {
			list = append(list, l.At)
		}
	}
	return list
}

func codeWanted(code int) string {
	if code == 0 {
		return "ok"
	}
	return "error " + strconv.Itoa(code)
}

func stepWanted(s impl.State, c impl.Command) (impl.State, string) {
	if !stateRight(s) || !commandRight(c) {
		return s, "error form"
	}
	s.Book, _ = advanceWanted(s.Book, c.Now)
	s.Desk, _ = expireWanted(s.Desk, s.Book.Now)
	s.Count++
	end := endWanted(s.Book.Now)
	switch c.Kind {
	case impl.CmdTime:
		return s, "time " + strconv.Itoa(s.Book.Now)
	case impl.CmdOpen:
		desk, id := openWanted(s.Desk, end)
		if id == 0 {
			return s, "error sessions"
		}
		s.Desk = desk
		return s, "session " + strconv.Itoa(id)
	case impl.CmdClose:
		desk, ok := closeWanted(s.Desk, c.Session)
		if !ok {
			return s, "error session"
		}
		s.Desk = desk
		return s, "closed"
	}
	switch code, told := askWanted(s.Desk, c.Session, c.Seq); code {
	case impl.SeqNone:
		return s, "error session"
	case impl.SeqOld:
		return s, "error old"
	case impl.SeqGap:
		return s, "error gap"
	case impl.SeqAgain:
		return s, told
	}
	s, reply := doneWanted(s, c)
	s.Desk, _ = answerWanted(s.Desk, c.Session, c.Seq, reply, end)
	return s, reply
}

// doneWanted is what a request that is new does, and its reply.
func doneWanted(s impl.State, c impl.Command) (impl.State, string) {
	code := 0
	switch c.Kind {
	case impl.CmdAddPool:
		s.Plan, code = addWanted(s.Plan, impl.Pool{At: c.At, Bits: c.Bits})
	case impl.CmdDropPool:
		s.Plan, code = dropWanted(s.Plan, c.At)
	case impl.CmdCarve:
		block := impl.Prefix{}
		s.Plan, block, code = carveWanted(s.Plan, c.At, c.Owner)
		if code == 0 {
			return s, "ok " + netText(netOf(block.At)) + "/" + strconv.Itoa(block.Bits)
		}
	case impl.CmdFree:
		if len(leasedWanted(s.Book, c.At)) > 0 {
			return s, "error leased"
		}
		s.Plan, code = freeWanted(s.Plan, c.At, c.Owner)
	case impl.CmdGrant:
		if !slices.Contains(s.Plan.Blocks, impl.Block{At: c.At, Owner: c.Owner}) {
			return s, "error block"
		}
		at, ok := leastAddr(c.At, leasedWanted(s.Book, c.At))
		if !ok {
			return s, "error empty"
		}
		return givenWanted(s, at, c)
	case impl.CmdTake:
		if !ownsAddr(s.Plan, c.Host, c.Owner) {
			return s, "error block"
		}
		return givenWanted(s, c.Host, c)
	case impl.CmdRenew:
		s.Book, code = renewWanted(s.Book, c.Host, c.Token, c.Span)
	case impl.CmdRelease:
		s.Book, code = releaseWanted(s.Book, c.Host, c.Token)
	default:
		panic("no kind that is numbered: " + strconv.Itoa(c.Kind))
	}
	return s, codeWanted(code)
}

func givenWanted(s impl.State, at impl.Addr, c impl.Command) (impl.State, string) {
	book, token, code := grantWanted(s.Book, at, c.Owner, c.Span)
	if code != 0 {
		return s, codeWanted(code)
	}
	s.Book = book
	return s, "ok " + netText(netOf(at)) + " " + strconv.Itoa(token)
}

// ownerWanted is who holds a, and under which token.
func ownerWanted(s impl.State, a impl.Addr) (string, int) {
	l, held := leaseOf(s.Book, a)
	if !held || !stateRight(s) {
		return "", 0
	}
	return l.Owner, l.Token
}

// scribbleState writes into all of a state's memory, its spare room too.
func scribbleState(s impl.State) {
	scribble(s.Plan)
	scribbleBook(s.Book)
	scribbleDesk(s.Desk)
}

// withRoom is s with spare room behind each list, in which stands what would make it wrong; and all of that memory.
func withRoom(s impl.State) (impl.State, impl.State) {
	room := impl.State{
		Plan: impl.Plan{Pools: slices.Concat(s.Plan.Pools, behind().Pools), Blocks: slices.Concat(s.Plan.Blocks, behind().Blocks)},
		Book: impl.Book{Leases: slices.Concat(s.Book.Leases, leasesBehind())},
		Desk: impl.Desk{Sessions: slices.Concat(s.Desk.Sessions, sessionsBehind())},
	}
	given := s
	given.Plan.Pools = room.Plan.Pools[:len(s.Plan.Pools)]
	given.Plan.Blocks = room.Plan.Blocks[:len(s.Plan.Blocks)]
	given.Book.Leases = room.Book.Leases[:len(s.Book.Leases)]
	given.Desk.Sessions = room.Desk.Sessions[:len(s.Desk.Sessions)]
	return given, room
}

// askedState hands s in with spare room behind its lists, and fails if the call changes them or the room, or answers any of their memory.
func askedState(t *testing.T, s impl.State, call func(impl.State) impl.State) impl.State {
	t.Helper()
	given, room := withRoom(s)
	kept := cloneState(room)
	answer := call(given)
	if !isSameState(room, kept) {
		t.Fatalf("the state %v was changed, or what stands behind: %v", s, room)
	}
	copied := cloneState(answer)
	scribbleState(answer)
	if !isSameState(room, kept) {
		t.Fatalf("what was answered for %v has its memory", s)
	}
	return copied
}

func checkState(t *testing.T, s impl.State) bool {
	t.Helper()
	ok := false
	askedState(t, s, func(x impl.State) impl.State {
		ok = impl.StateOk(x)
		return impl.State{}
	})
	if ok != stateRight(s) {
		t.Fatalf("StateOk(%v) = %v", s, ok)
	}
	return ok
}

func checkStep(t *testing.T, s impl.State, c impl.Command) (impl.State, string) {
	t.Helper()
	reply := ""
	got := askedState(t, s, func(x impl.State) (answer impl.State) {
		answer, reply = impl.Step(x, c)
		return answer
	})
	if want, told := stepWanted(s, c); reply != told || !isSameState(got, want) {
		t.Fatalf("Step(%v, %s) = %v, %q, not %v, %q", s, textAny(c), got, reply, want, told)
	}
	return got, reply
}

// checkSteps hands the commands in with spare room too, in which stands one that would be done.
func checkSteps(t *testing.T, s impl.State, list []impl.Command) (impl.State, []string) {
	t.Helper()
	room := append(slices.Clone(list), impl.Command{Kind: impl.CmdOpen, Now: 1}, impl.Command{Kind: impl.CmdTime, Now: lastTime})
	kept := slices.Clone(room)
	replies := []string{}
	got := askedState(t, s, func(x impl.State) (answer impl.State) {
		answer, replies = impl.Steps(x, room[:len(list)])
		return answer
	})
	if !slices.Equal(room, kept) {
		t.Fatalf("Steps changed %v: %v", kept, room)
	}
	want, told := s, []string{}
	for _, c := range list {
		reply := ""
		want, reply = stepWanted(want, c)
		told = append(told, reply)
	}
	if !slices.Equal(replies, told) || !isSameState(got, want) {
		t.Fatalf("Steps(%v, %v) = %v, %q, not %v, %q", s, list, got, replies, want, told)
	}
	return got, replies
}

func checkHeld(t *testing.T, s impl.State, a impl.Addr) (string, int) {
	t.Helper()
	owner, token := "", -1
	askedState(t, s, func(x impl.State) impl.State {
		owner, token = impl.Held(x, a)
		return impl.State{}
	})
	if o, n := ownerWanted(s, a); owner != o || token != n {
		t.Fatalf("Held(%v, %v) = %q, %d, not %q, %d", s, a, owner, token, o, n)
	}
	return owner, token
}

func commandOf(t *testing.T, s string) impl.Command {
	t.Helper()
	c, ok := commandOfText(s)
	if !ok {
		t.Fatal("no command:", s)
	}
	return c
}

func commandsOf(t *testing.T, lines ...string) []impl.Command {
	t.Helper()
	list := []impl.Command{}
	for _, s := range lines {
		list = append(list, commandOf(t, s))
	}
	return list
}

// The state that most of the tests below begin with: 10.0.1.0/30 is all leased, 10.0.2.0/24 is all carved, 10.0.0.65 ends at 40, the session 4 at 45.
const (
	somePools    = "10.0.0.0/24>26 10.0.1.0/29>30 10.0.2.0/24>25 2001:db8::/32>48"
	someBlocks   = "10.0.0.0/26=ann 10.0.0.64/26=bob 10.0.1.0/30=ann 10.0.2.0/25=bob 10.0.2.128/25=ann 2001:db8::/48=ann"
	someLeases   = "10.0.0.0=ann,3,60 10.0.0.2=ann,4,900 10.0.0.65=bob,1,40 10.0.1.0=ann,5,700 10.0.1.1=ann,6,700 10.0.1.2=ann,7,700 10.0.1.3=ann,8,700 2001:db8::=ann,2,80"
	someSessions = "2=3,kept,100 4=0,,45 6=1,six,999 8=1000000,last,999"
)

func plainState(t *testing.T) impl.State {
	t.Helper()
	return impl.State{
		Plan:  planOfTexts(t, somePools, someBlocks),
		Book:  bookOfTexts(t, someLeases, 9, 30),
		Desk:  deskOfTexts(t, someSessions, 9),
		Count: 70,
	}
}

// stateTexts has the plan, the leases, Token and Now, and the desk as lines.
func stateTexts(s impl.State) string {
	lines := []string{planTexts(s.Plan), bookTexts(s.Book), fmt.Sprint(s.Book.Token, s.Book.Now), deskTexts(s.Desk), strconv.Itoa(s.Count)}
	return strings.Join(lines, "\n")
}

func TestMachineConstants(t *testing.T) {
	if impl.SessionSpan != sessionLife {
		t.Error(impl.SessionSpan)
	}
}

func TestStateNew(t *testing.T) {
	s := impl.StateNew()
	if !isSameState(s, impl.State{Desk: impl.Desk{Next: 1}}) || !checkState(t, s) {
		t.Error(s)
	}
	if s := impl.StateNew(); checkState(t, impl.State{}) || len(s.Desk.Sessions) != 0 {
		t.Error("the zero state is right, or the new one has sessions")
	}
}

// aroundLeases holds the leases of wrongBooks, whose owners are ann, bob and c, in blocks of theirs; a book is then the only thing that is wrong.
func aroundLeases(t *testing.T) impl.Plan {
	t.Helper()
	return planOfTexts(t, "10.0.0.0/29>32 ::1/128>128 ffff::/128>128", "10.0.0.1/32=ann 10.0.0.2/32=bob 10.0.0.3/32=c ::1/128=ann ffff::/128=c")
}

func TestStateOkEachPart(t *testing.T) {
	if !checkState(t, plainState(t)) {
		t.Fatal("not right")
	}
	for name, p := range wrongPlans(t) {
		s := plainState(t)
		s.Plan = p
		if checkState(t, s) {
			t.Error("with leases, the plan:", name)
		}
		s.Book.Leases = nil
		if checkState(t, s) {
			t.Error("the plan:", name)
		}
	}
	lone := 0
	for name, b := range wrongBooks(t) {
		s := plainState(t)
		s.Plan, s.Book = aroundLeases(t), b
		if checkState(t, s) {
			t.Error("the book:", name)
		}
		if !slices.ContainsFunc(b.Leases, func(l impl.Lease) bool { return !ownsAddr(s.Plan, l.At, l.Owner) }) {
			lone++
		}
	}
	if lone < 15 {
		t.Error("too few books that alone are wrong:", lone)
	}
	for name, d := range wrongDesks(t) {
		s := plainState(t)
		s.Desk = d
		if checkState(t, s) {
			t.Error("the desk:", name)
		}
	}
	for _, n := range []int{math.MinInt, -1 << 32, -2, -1, 0, 1, 2, 1 << 40, math.MaxInt} {
		s := plainState(t)
		s.Count = n
		if checkState(t, s) != (n >= 0) {
			t.Error("Count", n)
		}
	}
}

func TestStateOkLeases(t *testing.T) {
	const pools = "0.0.0.0/24>26 10.0.0.0/24>26 ::/32>48"
	const blocks = "10.0.0.64/26=ann 10.0.0.128/26=bob ::/48=ann"
	for _, c := range []struct {
		leases string
		want   bool
	}{
		{"", true},
		{"10.0.0.64=ann,1,20", true},
		{"10.0.0.127=ann,1,20", true},
		{"10.0.0.128=bob,1,20", true},
		{"10.0.0.191=bob,1,20", true},
		{"::=ann,1,20", true},
		{"::ffff:ffff:ffff:ffff:ffff=ann,1,20", true},
		{"10.0.0.64=ann,1,20 10.0.0.128=bob,2,20 ::7=ann,3,20", true},
		// In a pool, but in no block.
		{"10.0.0.63=ann,1,20", false},
		{"10.0.0.192=bob,1,20", false},
		{"10.0.0.0=ann,1,20", false},
		{"0.0.0.0=ann,1,20", false},
		{"0:0:1::=ann,1,20", false},
		// In no pool.
		{"10.0.1.64=ann,1,20", false},
		{"9.0.0.64=ann,1,20", false},
		{"0:1::=ann,1,20", false},
		{"ffff::=ann,1,20", false},
		// In another's block.
		{"10.0.0.64=bob,1,20", false},
		{"10.0.0.127=bob,1,20", false},
		{"10.0.0.128=ann,1,20", false},
		{"::=bob,1,20", false},
		{"10.0.0.64=anna,1,20", false},
		{"10.0.0.64=an,1,20", false},
		{"10.0.0.64=c,1,20", false},
		// One of several, at each place.
		{"10.0.0.63=ann,1,20 10.0.0.128=bob,2,20 ::7=ann,3,20", false},
		{"10.0.0.64=ann,1,20 10.0.0.192=bob,2,20 ::7=ann,3,20", false},
		{"10.0.0.64=ann,1,20 10.0.0.128=bob,2,20 ::7=bob,3,20", false},
		{"10.0.0.64=bob,1,20 10.0.0.128=ann,2,20", false},
	} {
		s := impl.StateNew()
		s.Plan = planOfTexts(t, pools, blocks)
		s.Book = bookOfTexts(t, c.leases, 9, 10)
		if got := checkState(t, s); got != c.want {
			t.Errorf("StateOk with %s = %v", c.leases, got)
		}
	}
}

// Each lease moved to the edges of each block and pool, under each owner; and each block taken out, or given to another.
func TestStateOkMovedLeases(t *testing.T) {
	plain := plainState(t)
	counts := map[bool]int{}
	for place := range plain.Book.Leases {
		for _, at := range slices.Concat(poolsAt(plain.Plan), blocksAt(plain.Plan)) {
			for _, a := range edgesOf(at) {
				for _, owner := range []string{"ann", "bob", "c"} {
					s := cloneState(plain)
					s.Book.Leases = []impl.Lease{s.Book.Leases[place]}
					s.Book.Leases[0].At, s.Book.Leases[0].Owner = a, owner
					counts[checkState(t, s)]++
				}
			}
		}
	}
	for place := range plain.Plan.Blocks {
		s := cloneState(plain)
		s.Plan.Blocks[place].Owner = "c"
		counts[checkState(t, s)]++
		s.Plan.Blocks = slices.Delete(s.Plan.Blocks, place, place+1)
		counts[checkState(t, s)]++
	}
	if counts[true] < 100 || counts[false] < 100 {
		t.Error("the states are too much alike:", counts)
	}
}

// wrongStates are not StateOk, each by one thing alone.
func wrongStates(t *testing.T) map[string]impl.State {
	t.Helper()
	states := map[string]impl.State{"zero": {}}
	change := func(name string, do func(*impl.State)) {
		s := plainState(t)
		do(&s)
		states[name] = s
	}
	change("a pool twice", func(s *impl.State) { s.Plan.Pools = slices.Insert(s.Plan.Pools, 0, s.Plan.Pools[0]) })
	change("a block's owner", func(s *impl.State) { s.Plan.Blocks[3].Owner = "Bob" })
	change("a lease's token", func(s *impl.State) { s.Book.Leases[0].Token = 10 })
	change("the token", func(s *impl.State) { s.Book.Token = lastToken + 1 })
	change("the time", func(s *impl.State) { s.Book.Now = 40 })
	change("the time below 0", func(s *impl.State) { s.Book.Now = -1 })
	change("Next", func(s *impl.State) { s.Desk.Next = 8 })
	change("a session's end", func(s *impl.State) { s.Desk.Sessions[0].Until = lastTime + 1 })
	change("a reply ahead of all", func(s *impl.State) { s.Desk.Sessions[1].Reply = "early" })
	change("Count", func(s *impl.State) { s.Count = -1 })
	change("no block", func(s *impl.State) { s.Book.Leases[0].At = addrOfText(t, "9.255.255.255") })
	change("another's block", func(s *impl.State) { s.Book.Leases[2].Owner = "ann" })
	change("a block that is gone", func(s *impl.State) { s.Plan.Blocks = s.Plan.Blocks[:5] })
	return states
}

// Of a state that is not right, and of a command that is not, nothing is done, not even the time.
func TestStepForm(t *testing.T) {
	good := kindLines(t)
	for name, s := range wrongStates(t) {
		if checkState(t, s) {
			t.Fatal("right:", name)
		}
		for _, c := range slices.Concat(good, baseCommands(), []impl.Command{{}, {Kind: 12}}) {
			if got, reply := checkStep(t, s, c); reply != "error form" || !isSameState(got, s) {
				t.Errorf("%s: %s: %q", name, textAny(c), reply)
			}
		}
	}
	plain, wrong := plainState(t), 0
	for _, c := range good {
		c.Now = 50
		for _, name := range strings.Fields(fieldNames) {
			for _, value := range foreignValues(name) {
				x := withField(c, name, value)
				if commandRight(x) {
					continue
				}
				wrong++
				if got, reply := checkStep(t, plain, x); reply != "error form" || !isSameState(got, plain) {
					t.Errorf("%s: %q", textAny(x), reply)
				}
			}
		}
		for _, kind := range []int{math.MinInt, -1, 0, 12, 13, math.MaxInt} {
			c.Kind = kind
			if got, reply := checkStep(t, plain, c); reply != "error form" || !isSameState(got, plain) {
				t.Errorf("kind %d: %q", kind, reply)
			}
		}
	}
	if wrong < 200 {
		t.Error("too few wrong commands:", wrong)
	}
}

// kindLines are commands of each kind, at the time 30, that plainState does and that it refuses for each reason.
func kindLines(t *testing.T) []impl.Command {
	t.Helper()
	return commandsOf(t,
		"time now=30",
		"open now=30",
		"close session=6 now=30",
		"close session=5 now=30",
		"add-pool session=6 seq=2 now=30 at=10.0.3.0/24 bits=28",
		"add-pool session=6 seq=2 now=30 at=10.0.0.0/16 bits=28",
		"drop-pool session=6 seq=2 now=30 at=10.0.2.0/24",
		"carve session=6 seq=2 now=30 at=10.0.0.0/24 owner=c",
		"carve session=6 seq=2 now=30 at=10.0.2.0/24 owner=c",
		"free session=6 seq=2 now=30 at=10.0.2.128/25 owner=ann",
		"free session=6 seq=2 now=30 at=10.0.1.0/30 owner=ann",
		"free session=6 seq=2 now=30 at=10.0.2.128/25 owner=bob",
		"grant session=6 seq=2 now=30 at=10.0.0.0/26 owner=ann span=20",
		"grant session=6 seq=2 now=30 at=10.0.0.0/26 owner=bob span=20",
		"grant session=6 seq=2 now=30 at=10.0.1.0/30 owner=ann span=20",
		"take session=6 seq=2 now=30 host=10.0.2.200 owner=ann span=20",
		"take session=6 seq=2 now=30 host=10.0.2.200 owner=bob span=20",
		"take session=6 seq=2 now=30 host=10.0.0.2 owner=ann span=20",
		"renew session=6 seq=2 now=30 host=10.0.0.2 token=4 span=1000",
		"renew session=6 seq=2 now=30 host=10.0.0.2 token=5 span=1000",
		"release session=6 seq=2 now=30 host=10.0.1.3 token=8",
		"release session=6 seq=2 now=30 host=10.0.2.3 token=8",
		"release session=6 seq=1 now=30 host=10.0.1.3 token=8",
		"release session=6 seq=3 now=30 host=10.0.1.3 token=8",
		"release session=8 seq=1 now=30 host=10.0.1.3 token=8",
		"release session=5 seq=1 now=30 host=10.0.1.3 token=8",
	)
}

// What each command of kindLines is told.
func TestKindLines(t *testing.T) {
	want := strings.Split("time 30,session 9,closed,error session,ok,error 3,error 6,ok 10.0.0.128/26,error 5,ok,error leased,error 4,"+
		"ok 10.0.0.1 10,error block,error empty,ok 10.0.2.200 10,error block,error 11,ok,error 14,ok,error 13,six,error gap,error old,error session", ",")
	for i, c := range kindLines(t) {
		if _, reply := checkStep(t, plainState(t), c); reply != want[i] {
			t.Errorf("%s: %q, not %q", textAny(c), reply, want[i])
		}
	}
}

// The time comes first, whatever is asked and whatever is told then: the lease of 10.0.0.65 ends at 40, the session 4 behind 45.
func TestTimeComesFirst(t *testing.T) {
	plain := plainState(t)
	for _, c := range kindLines(t) {
		for _, now := range []int{0, 1, 29, 30, 31, 38, 39, 40, 41, 44, 45, 46, 47, 59, 60, 61, 99, 100, 101, 699, 700, 701, 998, 999, 1000, lastTime - 1, lastTime} {
			c.Now = now
			s, reply := checkStep(t, plain, c)
			later := max(now, 30)
			if s.Book.Now != later || s.Count != 71 || !impl.StateOk(s) {
				t.Fatalf("%s: %q at %d, Count %d", textAny(c), reply, s.Book.Now, s.Count)
			}
			if _, held := leaseOf(s.Book, addrOfText(t, "10.0.0.65")); held != (later < 40) {
				t.Errorf("%s: %q, and the lease is there: %v", textAny(c), reply, held)
			}
			if _, there := sessionOf(s.Desk, 4); there != (later <= 45) {
				t.Errorf("%s: %q, and the session is there: %v", textAny(c), reply, there)
			}
		}
	}
}

// A lease and a session that end just at the command's time, one ahead, one behind: what the same command is told then.
func TestToldAtTheEnd(t *testing.T) {
	for _, c := range []struct {
		line   string
		first  int
		before string
		behind string
	}{
		{"take session=2 seq=4 now=%d host=10.0.0.65 owner=bob span=5", 40, "error 11", "ok 10.0.0.65 10"},
		{"renew session=2 seq=4 now=%d host=10.0.0.65 token=1 span=5", 40, "ok", "error 13"},
		{"release session=2 seq=4 now=%d host=10.0.0.65 token=1", 40, "ok", "error 13"},
		{"free session=2 seq=4 now=%d at=10.0.0.64/26 owner=bob", 40, "error leased", "ok"},
		{"grant session=2 seq=4 now=%d at=10.0.0.0/26 owner=ann span=5", 60, "ok 10.0.0.1 10", "ok 10.0.0.0 10"},
		{"grant session=6 seq=2 now=%d at=10.0.1.0/30 owner=ann span=5", 700, "error empty", "ok 10.0.1.0 10"},
		{"close session=4 now=%d", 46, "closed", "error session"},
		{"drop-pool session=4 seq=1 now=%d at=10.0.1.0/29", 46, "error 6", "error session"},
		{"drop-pool session=4 seq=2 now=%d at=10.0.1.0/29", 46, "error gap", "error session"},
		{"drop-pool session=2 seq=3 now=%d at=10.0.1.0/29", 101, "kept", "error session"},
		{"drop-pool session=2 seq=1 now=%d at=10.0.1.0/29", 101, "error old", "error session"},
	} {
		for step := -3; step <= 3; step++ {
			want := c.before
			if step >= 0 {
				want = c.behind
			}
			line := fmt.Sprintf(c.line, c.first+step)
			if _, reply := checkStep(t, plainState(t), commandOf(t, line)); reply != want {
				t.Errorf("%s: %q, not %q", line, reply, want)
			}
		}
	}
}

// What each line is told, and what of plainState's texts is another afterwards; besides there are Count, the session's own and the Token that was given.
func TestStepTable(t *testing.T) {
	for _, c := range []struct {
		line, reply, was, is string
	}{
		{"time now=31", "time 31", "9 30", "9 31"},
		{"time now=29", "time 30", "9 30", "9 30"},
		{"open now=30", "session 9", "8=1000000,last,999 9", "8=1000000,last,999 9=0,,530 10"},
		{"open now=3", "session 9", "8=1000000,last,999 9", "8=1000000,last,999 9=0,,530 10"},
		{"close session=4 now=30", "closed", " 4=0,,45", ""},
		{"close session=2 now=30", "closed", "2=3,kept,100 ", ""},
		{"close session=9 now=30", "error session", "", ""},
		{"close session=3 now=30", "error session", "", ""},
		{"add-pool session=2 seq=4 now=30 at=10.0.3.0/24 bits=28", "ok", "10.0.2.0/24>25", "10.0.2.0/24>25 10.0.3.0/24>28"},
		{"add-pool session=2 seq=4 now=30 at=2001:db9::/32 bits=52", "ok", "2001:db8::/32>48", "2001:db8::/32>48 2001:db9::/32>52"},
		{"add-pool session=2 seq=4 now=30 at=10.0.3.0/24 bits=33", "error 1", "", ""},
		{"add-pool session=2 seq=4 now=30 at=10.0.3.0/24 bits=128", "error 1", "", ""},
		{"add-pool session=2 seq=4 now=30 at=10.0.3.0/24 bits=23", "error 1", "", ""},
		{"add-pool session=2 seq=4 now=30 at=12.0.0.0/8 bits=29", "error 1", "", ""},
		{"add-pool session=2 seq=4 now=30 at=10.0.0.0/26 bits=28", "error 3", "", ""},
		{"drop-pool session=2 seq=4 now=30 at=10.0.4.0/24", "error 4", "", ""},
		{"drop-pool session=2 seq=4 now=30 at=10.0.0.0/26", "error 4", "", ""},
		{"drop-pool session=2 seq=4 now=30 at=10.0.0.0/24", "error 6", "", ""},
		{"carve session=2 seq=4 now=30 at=10.0.0.0/24 owner=c", "ok 10.0.0.128/26", "10.0.0.64/26=bob", "10.0.0.64/26=bob 10.0.0.128/26=c"},
		{"carve session=2 seq=4 now=30 at=10.0.1.0/29 owner=ann", "ok 10.0.1.4/30", "10.0.1.0/30=ann", "10.0.1.0/30=ann 10.0.1.4/30=ann"},
		{"carve session=2 seq=4 now=30 at=2001:db8::/32 owner=c", "ok 2001:db8:1::/48", "2001:db8::/48=ann", "2001:db8::/48=ann 2001:db8:1::/48=c"},
		{"carve session=2 seq=4 now=30 at=10.0.2.0/24 owner=c", "error 5", "", ""},
		{"carve session=2 seq=4 now=30 at=10.0.0.0/26 owner=c", "error 4", "", ""},
		{"free session=2 seq=4 now=30 at=10.0.2.0/25 owner=bob", "ok", " 10.0.2.0/25=bob", ""},
		{"free session=2 seq=4 now=30 at=10.0.2.0/25 owner=ann", "error 4", "", ""},
		{"free session=2 seq=4 now=30 at=10.0.2.0/24 owner=bob", "error 4", "", ""},
		{"free session=2 seq=4 now=30 at=10.0.0.64/26 owner=bob", "error leased", "", ""},
		{"free session=2 seq=4 now=30 at=10.0.1.0/30 owner=ann", "error leased", "", ""},
		{"free session=2 seq=4 now=30 at=2001:db8::/48 owner=ann", "error leased", "", ""},
		{"grant session=2 seq=4 now=30 at=10.0.0.0/26 owner=ann span=20", "ok 10.0.0.1 10", "10.0.0.0=ann,3,60", "10.0.0.0=ann,3,60 10.0.0.1=ann,10,50"},
		{"grant session=2 seq=4 now=30 at=10.0.0.64/26 owner=bob span=1", "ok 10.0.0.64 10", "10.0.0.65=bob,1,40", "10.0.0.64=bob,10,31 10.0.0.65=bob,1,40"},
		{"grant session=2 seq=4 now=30 at=2001:db8::/48 owner=ann span=1000", "ok 2001:db8::1 10", "2001:db8::=ann,2,80", "2001:db8::=ann,2,80 2001:db8::1=ann,10,1030"},
		{"grant session=2 seq=4 now=30 at=10.0.0.0/26 owner=bob span=20", "error block", "", ""},
		{"grant session=2 seq=4 now=30 at=10.0.0.0/25 owner=ann span=20", "error block", "", ""},
		{"grant session=2 seq=4 now=30 at=10.0.0.0/27 owner=ann span=20", "error block", "", ""},
		{"grant session=2 seq=4 now=30 at=10.0.0.128/26 owner=ann span=20", "error block", "", ""},
		{"grant session=2 seq=4 now=30 at=10.0.1.0/30 owner=ann span=20", "error empty", "", ""},
		{"take session=2 seq=4 now=30 host=10.0.0.63 owner=ann span=20", "ok 10.0.0.63 10", "10.0.0.2=ann,4,900", "10.0.0.2=ann,4,900 10.0.0.63=ann,10,50"},
		{"take session=2 seq=4 now=30 host=10.0.0.64 owner=ann span=20", "error block", "", ""},
		{"take session=2 seq=4 now=30 host=10.0.0.63 owner=bob span=20", "error block", "", ""},
		{"take session=2 seq=4 now=30 host=10.0.0.128 owner=ann span=20", "error block", "", ""},
		{"take session=2 seq=4 now=30 host=10.0.0.2 owner=ann span=20", "error 11", "", ""},
		{"take session=2 seq=4 now=30 host=10.0.0.2 owner=bob span=20", "error block", "", ""},
		{"renew session=2 seq=4 now=30 host=10.0.0.0 token=3 span=100", "ok", "10.0.0.0=ann,3,60", "10.0.0.0=ann,3,130"},
		{"renew session=2 seq=4 now=30 host=10.0.0.0 token=3 span=10", "ok", "10.0.0.0=ann,3,60", "10.0.0.0=ann,3,60"},
		{"renew session=2 seq=4 now=30 host=10.0.0.0 token=4 span=100", "error 14", "", ""},
		{"renew session=2 seq=4 now=30 host=10.0.0.1 token=3 span=100", "error 13", "", ""},
		{"release session=2 seq=4 now=30 host=10.0.0.0 token=3", "ok", "10.0.0.0=ann,3,60 ", ""},
		{"release session=2 seq=4 now=30 host=10.0.0.0 token=9", "error 14", "", ""},
		{"release session=2 seq=4 now=30 host=10.0.0.3 token=3", "error 13", "", ""},
	} {
		s, reply := checkStep(t, plainState(t), commandOf(t, c.line))
		want := plainState(t)
		want.Count = 71
		text := stateTexts(want)
		if !strings.Contains(text, c.was) {
			t.Fatal("not there:", c.was)
		}
		text = strings.Replace(text, c.was, c.is, 1)
		if strings.Contains(c.line, "seq=") {
			text = strings.Replace(text, "2=3,kept,100", "2=4,"+reply+",530", 1)
		}
		if strings.HasSuffix(reply, " 10") {
			text = strings.Replace(text, "9 30", "10 30", 1)
		}
		if reply != c.reply || stateTexts(s) != text {
			t.Errorf("%s: %q, not %q; the state\n%s\nnot\n%s", c.line, reply, c.reply, stateTexts(s), text)
		}
	}
}

// Where several reasons apply the first in the chapter's order counts.
func TestFirstReasonCounts(t *testing.T) {
	full := plainState(t)
	for place, n := 0, 0; len(full.Book.Leases) < mostLeases; n++ {
		at := addrOfText(t, "10.0.2."+strconv.Itoa(n))
		place = len(full.Book.Leases) - 1
		full.Book.Leases = slices.Insert(full.Book.Leases, place, impl.Lease{At: at, Owner: "bob", Token: 20 + n, Until: lastTime})
	}
	full.Book.Token = 200
	spent := plainState(t)
	spent.Book.Token = lastToken
	late := plainState(t)
	late.Book.Now = lastTime - 10
	late.Book.Leases = slices.DeleteFunc(late.Book.Leases, func(l impl.Lease) bool { return l.At != addrOfText(t, "10.0.0.2") })
	late.Book.Leases[0].Until = lastTime
	late.Desk.Sessions[0].Until = lastTime
	narrowed := plainState(t)
	narrowed.Book.Now, narrowed.Book.Leases = lastTime-10, slices.DeleteFunc(narrowed.Book.Leases, func(l impl.Lease) bool { return l.Token < 5 })
	for i := range narrowed.Book.Leases {
		narrowed.Book.Leases[i].Until = lastTime
	}
	narrowed.Desk.Sessions[0].Until = lastTime
	for _, c := range []struct {
		s           impl.State
		line, reply string
	}{
		// A request of no session, of an old or of a later number is not looked at.
		{full, "grant session=3 seq=4 now=0 at=10.0.1.0/30 owner=ann span=20", "error session"},
		{full, "grant session=2 seq=2 now=0 at=10.0.1.0/30 owner=ann span=20", "error old"},
		{full, "grant session=2 seq=5 now=0 at=10.0.1.0/30 owner=ann span=20", "error gap"},
		{full, "grant session=2 seq=3 now=0 at=10.0.1.0/30 owner=ann span=20", "kept"},
		{full, "grant session=9 seq=1 now=0 at=10.0.0.0/26 owner=ann span=20", "error session"},
		{full, "free session=2 seq=6 now=0 at=10.0.1.0/30 owner=ann", "error gap"},
		{full, "free session=4 seq=2 now=0 at=10.0.1.0/30 owner=ann", "error gap"},
		// Leased addresses count ahead of what Free asks for.
		{full, "free session=2 seq=4 now=0 at=10.0.1.0/29 owner=ann", "error leased"},
		{full, "free session=2 seq=4 now=0 at=0.0.0.0/0 owner=c", "error leased"},
		{full, "free session=2 seq=4 now=0 at=10.0.1.2/32 owner=bob", "error leased"},
		{full, "free session=2 seq=4 now=0 at=10.0.1.0/30 owner=bob", "error leased"},
		{full, "free session=2 seq=4 now=0 at=10.0.3.0/30 owner=bob", "error 4"},
		{full, "free session=2 seq=4 now=0 at=2001:db8::/128 owner=c", "error leased"},
		{full, "free session=2 seq=4 now=0 at=2001:db8::1/128 owner=c", "error 4"},
		// The block, then what is free in it, then what Grant asks for.
		{full, "grant session=2 seq=4 now=0 at=10.0.1.0/30 owner=bob span=20", "error block"},
		{full, "grant session=2 seq=4 now=0 at=10.0.1.0/30 owner=ann span=20", "error empty"},
		{full, "grant session=2 seq=4 now=0 at=10.0.0.0/26 owner=ann span=20", "error 12"},
		{full, "take session=2 seq=4 now=0 host=10.0.0.2 owner=bob span=20", "error block"},
		{full, "take session=2 seq=4 now=0 host=10.0.0.2 owner=ann span=20", "error 11"},
		{full, "take session=2 seq=4 now=0 host=10.0.0.3 owner=ann span=20", "error 12"},
		{spent, "grant session=2 seq=4 now=0 at=10.0.1.0/30 owner=bob span=20", "error block"},
		{spent, "grant session=2 seq=4 now=0 at=10.0.1.0/30 owner=ann span=20", "error empty"},
		{spent, "grant session=2 seq=4 now=0 at=10.0.0.0/26 owner=ann span=20", "error 10"},
		{spent, "take session=2 seq=4 now=0 host=10.0.0.2 owner=ann span=20", "error 10"},
		{spent, "take session=2 seq=4 now=0 host=10.0.0.64 owner=ann span=20", "error block"},
		{spent, "renew session=2 seq=4 now=0 host=10.0.0.2 token=4 span=20", "ok"},
		{late, "grant session=2 seq=4 now=0 at=10.0.0.0/26 owner=ann span=10", "ok 10.0.0.0 10"},
		{late, "grant session=2 seq=4 now=0 at=10.0.0.0/26 owner=ann span=11", "error 10"},
		{late, "grant session=2 seq=4 now=0 at=10.0.0.0/26 owner=bob span=11", "error block"},
		{late, "take session=2 seq=4 now=0 host=10.0.0.2 owner=ann span=11", "error 10"},
		{late, "take session=2 seq=4 now=0 host=10.0.0.2 owner=ann span=10", "error 11"},
		{late, "renew session=2 seq=4 now=0 host=10.0.0.2 token=5 span=11", "error 10"},
		{late, "renew session=2 seq=4 now=0 host=10.0.0.2 token=5 span=10", "error 14"},
		{late, "renew session=2 seq=4 now=0 host=10.0.0.3 token=5 span=10", "error 13"},
		{narrowed, "grant session=2 seq=4 now=0 at=10.0.1.0/30 owner=ann span=11", "error empty"},
	} {
		if !checkState(t, c.s) {
			t.Fatal("not right, for", c.line)
		}
		s, reply := checkStep(t, c.s, commandOf(t, c.line))
		if reply != c.reply {
			t.Errorf("%s: %q, not %q", c.line, reply, c.reply)
		}
		if strings.HasPrefix(reply, "error") && (!samePlan(s.Plan, c.s.Plan) || !sameBook(s.Book, c.s.Book)) {
			t.Errorf("%s: %q, and the plan or the book changed", c.line, reply)
		}
	}
}

func TestOpenMostSessions(t *testing.T) {
	s := impl.StateNew()
	for n := range mostSessions {
		reply := ""
		s, reply = checkStep(t, s, impl.Command{Kind: impl.CmdOpen, Now: 10 * n})
		if reply != "session "+strconv.Itoa(n+1) {
			t.Fatal(n, reply)
		}
	}
	last := 10 * (mostSessions - 1)
	full, reply := checkStep(t, s, impl.Command{Kind: impl.CmdOpen, Now: last + 1})
	if reply != "error sessions" || !sameDesk(full.Desk, s.Desk) || full.Book.Now != last+1 || full.Count != s.Count+1 {
		t.Error("with twelve:", reply, full)
	}
	// The first session lives to 500: at 500 there is no room, at 501 there is.
	if _, reply = checkStep(t, full, impl.Command{Kind: impl.CmdOpen, Now: sessionLife}); reply != "error sessions" {
		t.Error("at the end of the first:", reply)
	}
	if _, reply = checkStep(t, full, impl.Command{Kind: impl.CmdOpen, Now: sessionLife + 1}); reply != "session 13" {
		t.Error("behind the end of the first:", reply)
	}
	closed, _ := checkStep(t, full, impl.Command{Kind: impl.CmdClose, Session: 5, Now: last})
	if _, reply = checkStep(t, closed, impl.Command{Kind: impl.CmdOpen, Now: last}); reply != "session 13" {
		t.Error("behind a close:", reply)
	}
	s = impl.StateNew()
	s.Desk.Next = lastNext - 1
	s, reply = checkStep(t, s, impl.Command{Kind: impl.CmdOpen, Now: 4})
	if reply != "session 999999" || s.Desk.Next != lastNext {
		t.Error("the last Id:", reply)
	}
	if s, reply = checkStep(t, s, impl.Command{Kind: impl.CmdOpen, Now: 4}); reply != "error sessions" || s.Desk.Next != lastNext {
		t.Error("behind the last Id:", reply)
	}
}

// A session that opens or is answered lives SessionSpan longer, and to MaxTime at most.
func TestSessionsEndAtMaxTime(t *testing.T) {
	for _, now := range []int{0, 1, 499, 500, lastTime - 1001, lastTime - 501, lastTime - 500, lastTime - 499, lastTime - 1, lastTime} {
		want := endWanted(now)
		if want > lastTime || want < now || want-now > sessionLife {
			t.Fatal(now, want)
		}
		s, reply := checkStep(t, impl.StateNew(), impl.Command{Kind: impl.CmdOpen, Now: now})
		if reply != "session 1" || s.Desk.Sessions[0].Until != want {
			t.Error("opened at", now, s.Desk)
		}
		for _, until := range []int{now, want, min(want+1, lastTime), lastTime} {
			d := cloneState(s)
			d.Desk.Sessions[0].Until = until
			d, reply = checkStep(t, d, impl.Command{Kind: impl.CmdDropPool, Session: 1, Seq: 1, Now: now})
			if reply != "error 4" || d.Desk.Sessions[0].Until != max(until, want) {
				t.Error("answered at", now, "where the end was", until, d.Desk)
			}
		}
	}
}

// Asked again at any time, a request is told the same and does nothing; only the time goes on.
func TestAskedTwiceIsDoneOnce(t *testing.T) {
	done := map[string]int{}
	for _, c := range kindLines(t) {
		if c.Seq == 0 || c.Session != 6 || c.Seq != 2 {
			continue
		}
		once, reply := checkStep(t, plainState(t), c)
		done[strings.Fields(reply)[0]]++
		for _, now := range []int{0, 30, 31, 40, 46, 60, 530, 699, 999} {
			again := c
			again.Now = now
			twice, told := checkStep(t, once, again)
			passed, _ := checkStep(t, once, impl.Command{Kind: impl.CmdTime, Now: now})
			if told != reply || !isSameState(twice, passed) {
				t.Errorf("%s: %q, again %q; %v, not %v", textAny(again), reply, told, twice, passed)
			}
		}
		// What counts is the number: another request under it is not looked at.
		for _, other := range kindLines(t) {
			if other.Seq == 0 {
				continue
			}
			other.Session, other.Seq, other.Now = 6, 2, 35
			twice, told := checkStep(t, once, other)
			passed, _ := checkStep(t, once, impl.Command{Kind: impl.CmdTime, Now: 35})
			if told != reply || !isSameState(twice, passed) {
				t.Errorf("%s behind %s: %q, not %q", textAny(other), textAny(c), told, reply)
			}
		}
		// Another session's request of the same number is done on its own.
		other := c
		other.Session, other.Seq = 2, 4
		if s, _ := checkStep(t, once, other); s.Desk.Sessions[0].Last != 4 {
			t.Errorf("%s: %v", textAny(other), s.Desk)
		}
	}
	if done["ok"] < 7 || done["error"] < 7 {
		t.Error("too much alike:", done)
	}
}

// An error is kept too: what was refused once is not tried again, though it would be done now.
func TestErrorsAreKept(t *testing.T) {
	free := commandOf(t, "free session=6 seq=2 now=30 at=10.0.0.64/26 owner=bob")
	s, reply := checkStep(t, plainState(t), free)
	if reply != "error leased" {
		t.Fatal(reply)
	}
	free.Now = 40
	if s, reply = checkStep(t, s, free); reply != "error leased" || len(s.Book.Leases) != 7 {
		t.Error("again, when nothing is leased there:", reply)
	}
	free.Seq = 3
	if _, reply = checkStep(t, s, free); reply != "ok" {
		t.Error("under the next number:", reply)
	}
}

// Who comes with another token changes no lease and no token, whatever the token is.
func TestFencedChangesNothing(t *testing.T) {
	plain := plainState(t)
	for _, l := range plain.Book.Leases {
		for _, token := range append(upTo(13), lastToken-1, lastToken) {
			renew := impl.Command{Kind: impl.CmdRenew, Session: 2, Seq: 4, Now: 30, Host: l.At, Token: token, Span: 1000}
			release := impl.Command{Kind: impl.CmdRelease, Session: 2, Seq: 4, Now: 30, Host: l.At, Token: token}
			for _, c := range []impl.Command{renew, release} {
				s, reply := checkStep(t, plain, c)
				switch {
				case token < 1:
					if reply != "error form" {
						t.Errorf("%s: %q", textAny(c), reply)
					}
				case token == l.Token:
					if reply != "ok" || sameBook(s.Book, plain.Book) {
						t.Errorf("%s: %q, and the book: %v", textAny(c), reply, s.Book)
					}
				case reply != "error 14" || !sameBook(s.Book, plain.Book) || !samePlan(s.Plan, plain.Plan):
					t.Errorf("%s: %q, and the book: %v", textAny(c), reply, s.Book)
				}
			}
		}
	}
	// A holder whose lease ended and was taken by another is fenced.
	s, replies := checkSteps(t, plain, commandsOf(t,
		"take session=2 seq=4 now=40 host=10.0.0.65 owner=bob span=50",
		"renew session=6 seq=2 now=41 host=10.0.0.65 token=1 span=90",
		"release session=6 seq=3 now=41 host=10.0.0.65 token=1",
		"renew session=2 seq=5 now=41 host=10.0.0.65 token=10 span=90",
	))
	if !slices.Equal(replies, []string{"ok 10.0.0.65 10", "error 14", "error 14", "ok"}) {
		t.Error(replies)
	}
	if owner, token := checkHeld(t, s, addrOfText(t, "10.0.0.65")); owner != "bob" || token != 10 {
		t.Error(owner, token)
	}
}

func TestHeldTable(t *testing.T) {
	s := plainState(t)
	for _, c := range []struct {
		at    string
		owner string
		token int
	}{
		{"10.0.0.0", "ann", 3},
		{"10.0.0.2", "ann", 4},
		{"10.0.0.65", "bob", 1},
		{"10.0.1.3", "ann", 8},
		{"2001:db8::", "ann", 2},
		{"10.0.0.1", "", 0},
		{"10.0.0.64", "", 0},
		{"10.0.2.0", "", 0},
		{"10.0.1.4", "", 0},
		{"9.255.255.255", "", 0},
		{"0.0.0.0", "", 0},
		{"::", "", 0},
		{"2001:db8::1", "", 0},
		{"2001:db8:0:0:1::", "", 0},
		{"::a00:0", "", 0},
	} {
		if owner, token := checkHeld(t, s, addrOfText(t, c.at)); owner != c.owner || token != c.token {
			t.Errorf("Held of %s = %q, %d", c.at, owner, token)
		}
	}
	for name, wrong := range wrongStates(t) {
		for _, l := range wrong.Book.Leases {
			if owner, token := checkHeld(t, wrong, l.At); owner != "" || token != 0 {
				t.Error("of a wrong state:", name, owner, token)
			}
		}
	}
}

// What is no address has no lease, also where that of 0.0.0.0, as which it counts elsewhere, is leased.
func TestHeldOfWrongAddrs(t *testing.T) {
	s := impl.StateNew()
	s.Plan = planOfTexts(t, "0.0.0.0/30>30", "0.0.0.0/30=ann")
	s.Book = bookOfTexts(t, "0.0.0.0=ann,1,20 0.0.0.1=ann,2,20", 2, 10)
	if owner, token := checkHeld(t, s, narrow(0)); owner != "ann" || token != 1 {
		t.Error(owner, token)
	}
	for _, a := range wrongAddrs() {
		if owner, token := checkHeld(t, s, a); owner != "" || token != 0 {
			t.Error(a, owner, token)
		}
	}
}

func TestStepsOfNone(t *testing.T) {
	states := wrongStates(t)
	states["plain"] = plainState(t)
	states["new"] = impl.StateNew()
	for name, s := range states {
		for _, list := range [][]impl.Command{nil, {}} {
			if got, replies := checkSteps(t, s, list); len(replies) != 0 || !isSameState(got, s) {
				t.Error("Steps of none:", name, replies)
			}
		}
		if stateRight(s) {
			continue
		}
		got, replies := checkSteps(t, s, kindLines(t)[:3])
		if !slices.Equal(replies, []string{"error form", "error form", "error form"}) || !isSameState(got, s) {
			t.Error("Steps of a wrong state:", name, replies)
		}
	}
}

// A wrong command among right ones is told, and the others are done as if it were not there.
func TestStepsWithWrongCommands(t *testing.T) {
	list := commandsOf(t, "open now=31", "time now=50", "close session=4 now=20")
	clean, told := checkSteps(t, plainState(t), list)
	wrong := []impl.Command{{}, {Kind: impl.CmdTime, Now: lastTime + 1}, {Kind: impl.CmdTime, Now: 900, Seq: 1}, {Kind: impl.CmdClose, Now: 900}}
	for place := range len(list) + 1 {
		for _, c := range wrong {
			got, replies := checkSteps(t, plainState(t), slices.Insert(slices.Clone(list), place, c))
			if !isSameState(got, clean) || !slices.Equal(replies, slices.Insert(slices.Clone(told), place, "error form")) {
				t.Error(place, c, replies)
			}
		}
	}
}

// A stateWalker moves a state by any commands, and remembers what was told and given.
type stateWalker struct {
	chance *rand.Rand
	state  impl.State
	now    int
	seen   map[string]int
	told   map[[2]int]string
	tokens map[impl.Addr]int
}

func newStateWalker(seed int, seen map[string]int) *stateWalker {
	w := &stateWalker{chance: rand.New(rand.NewSource(int64(seed))), state: impl.StateNew(), seen: seen}
	w.told, w.tokens = map[[2]int]string{}, map[impl.Addr]int{}
	return w
}

func pickedOf[T any](chance *rand.Rand, list ...T) T {
	return list[chance.Intn(len(list))]
}

// somePool is one of few, some of which lie in others.
func (w *stateWalker) somePool() impl.Prefix {
	list := []impl.Prefix{
		prefixAt(narrow(0x0a000000), 28), prefixAt(narrow(0x0a000010), 29), prefixAt(narrow(0x0a000000), 24),
		prefixAt(wide(0x20010db800000000, 0), 120), prefixAt(wide(0x20010db800000000, 0x100), 126),
	}
	if n := len(w.state.Plan.Pools); n > 0 && w.chance.Intn(3) > 0 {
		return w.state.Plan.Pools[w.chance.Intn(n)].At
	}
	return pickedOf(w.chance, list...)
}

func (w *stateWalker) someBlock() impl.Block {
	if n := len(w.state.Plan.Blocks); n > 0 && w.chance.Intn(8) > 0 {
		b := w.state.Plan.Blocks[w.chance.Intn(n)]
		if w.chance.Intn(6) == 0 {
			b.Owner = w.someOwner()
		}
		return b
	}
	return impl.Block{At: w.somePool(), Owner: w.someOwner()}
}

func (w *stateWalker) someOwner() string {
	return pickedOf(w.chance, "ann", "bob", "c")
}

// someHost is mostly one that is leased, or that lies in a block.
func (w *stateWalker) someHost() impl.Addr {
	if n := len(w.state.Book.Leases); n > 0 && w.chance.Intn(2) == 0 {
		return w.state.Book.Leases[w.chance.Intn(n)].At
	}
	at := w.someBlock().At.At
	at.Lo += w.chance.Intn(4)
	return at
}

func (w *stateWalker) someToken(at impl.Addr) int {
	if l, held := leaseOf(w.state.Book, at); held && w.chance.Intn(4) > 0 {
		return l.Token
	}
	return 1 + w.chance.Intn(w.state.Book.Token+2)
}

func (w *stateWalker) someSession() (int, int) {
	n := len(w.state.Desk.Sessions)
	if n == 0 || w.chance.Intn(12) == 0 {
		return 1 + w.chance.Intn(w.state.Desk.Next+1), 1 + w.chance.Intn(3)
	}
	s := w.state.Desk.Sessions[w.chance.Intn(n)]
	return s.Id, max(1, s.Last+pickedOf(w.chance, 1, 1, 1, 1, 1, 1, 0, 0, -1, 2))
}

// someTime mostly goes on by little, at times back, at times so far that leases and sessions end.
func (w *stateWalker) someTime() int {
	switch w.chance.Intn(40) {
	case 0:
		w.now += 400
	case 1:
		return max(0, w.now-w.chance.Intn(50))
	default:
		w.now += w.chance.Intn(3)
	}
	w.now = min(w.now, lastTime)
	return w.now
}

func (w *stateWalker) someCommand() impl.Command {
	kind := pickedOf(w.chance, 1, 1, 2, 3, 3, 4, 5, 5, 5, 6, 6, 7, 7, 7, 7, 8, 8, 8, 8, 9, 9, 9, 10, 10, 11)
	session, seq := w.someSession()
	block, host := w.someBlock(), w.someHost()
	form, _ := formOf(kind)
	c := impl.Command{Kind: kind}
	owner := block.Owner
	if b, in := blockWanted(w.state.Plan, true, host); kind == impl.CmdTake && in && w.chance.Intn(5) > 0 {
		owner = b.Owner
	}
	at := block.At
	if kind <= impl.CmdCarve {
		at = w.somePool()
	}
	values := map[string]any{
		"session": session, "seq": seq, "now": w.someTime(), "at": at, "bits": at.Bits + pickedOf(w.chance, 0, 1, 2, 2, 3, 9),
		"host": host, "owner": owner, "token": w.someToken(host), "span": pickedOf(w.chance, 1, 5, 30, 200, 1000),
	}
	for _, name := range strings.Fields(form.fields) {
		c = withField(c, name, values[name])
	}
	if w.chance.Intn(60) == 0 {
		c.Now = -1
	}
	return c
}

// step does some command, or one that was asked before, and looks at what that must not change.
func (w *stateWalker) step(t *testing.T) {
	t.Helper()
	c := w.someCommand()
	before := w.state
	s, reply := checkStep(t, before, c)
	w.state = s
	w.seen[fmt.Sprint(c.Kind, " ", shortReply(c, reply))]++
	if !impl.StateOk(s) {
		t.Fatalf("%s makes a state that is not right: %v", textAny(c), s)
	}
	if s.Book.Token < before.Book.Token || s.Book.Now < before.Book.Now || s.Desk.Next < before.Desk.Next {
		t.Fatalf("%s: the token, the time or the next Id fell", textAny(c))
	}
	w.lookedAtLeases(t, c, before, reply)
	if c.Seq > 0 && commandRight(c) {
		w.lookedAtReply(t, c, before, reply)
	}
}

// shortReply leaves out what differs from one reply to the next: addresses and tokens, and what is told again.
func shortReply(c impl.Command, reply string) string {
	parts := strings.Fields(reply)
	if parts[0] == "error" {
		return reply
	}
	return parts[0]
}

// lookedAtLeases fails if an address is given under a token that is not above all that it had, or a lease goes ahead of its time without its token.
func (w *stateWalker) lookedAtLeases(t *testing.T, c impl.Command, before impl.State, reply string) {
	t.Helper()
	for _, l := range w.state.Book.Leases {
		was, held := leaseOf(before.Book, l.At)
		if held && was.Token == l.Token {
			continue
		}
		if l.Token <= w.tokens[l.At] || l.Token != w.state.Book.Token {
			t.Fatalf("%s: the token %d behind %d", textAny(c), l.Token, w.tokens[l.At])
		}
		w.tokens[l.At] = l.Token
	}
	for _, was := range before.Book.Leases {
		_, held := leaseOf(w.state.Book, was.At)
		ended := was.Until <= w.state.Book.Now
		released := c.Kind == impl.CmdRelease && c.Host == was.At && c.Token == was.Token && reply == "ok"
		if !held && !ended && !released {
			t.Fatalf("%s: the lease %v is gone", textAny(c), was)
		}
	}
}

// lookedAtReply fails if a number of a session is done twice, or told another reply the second time.
func (w *stateWalker) lookedAtReply(t *testing.T, c impl.Command, before impl.State, reply string) {
	t.Helper()
	s, there := sessionOf(before.Desk, c.Session)
	if !there || s.Until < w.state.Book.Now {
		return
	}
	number := [2]int{c.Session, c.Seq}
	was, again := w.told[number]
	switch {
	case c.Seq == s.Last+1 && again:
		t.Fatalf("%s is done a second time", textAny(c))
	case c.Seq == s.Last+1:
		w.told[number] = reply
	case c.Seq == s.Last && (!again || reply != was):
		t.Fatalf("%s was told %q, now %q", textAny(c), was, reply)
	case !samePlan(before.Plan, w.state.Plan) || before.Book.Token != w.state.Book.Token:
		t.Fatalf("%s is not new, and does something: %q", textAny(c), reply)
	}
}

func TestStatesMovedByAnyCommands(t *testing.T) {
	seen := map[string]int{}
	for seed := range 40 {
		w := newStateWalker(seed, seen)
		if seed%5 == 4 {
			w.now = lastTime - 3000
			w.state.Book.Token = lastToken - 60
		}
		for range 400 {
			w.step(t)
		}
	}
	for _, s := range []string{
		"1 session", "1 error sessions", "1 error form", "2 closed", "2 error session", "11 time",
		"3 ok", "3 error 1", "3 error 3", "4 ok", "4 error 4", "4 error 6", "5 ok", "5 error 4", "5 error 5",
		"6 ok", "6 error leased", "6 error 4", "7 ok", "7 error block", "7 error empty", "7 error 10",
		"8 ok", "8 error block", "8 error 11", "8 error 10", "9 ok", "9 error 10", "9 error 13", "9 error 14",
		"10 ok", "10 error 13", "10 error 14", "10 error session", "10 error old", "10 error gap",
	} {
		if seen[s] < 5 {
			t.Errorf("hardly ever seen: %s: %d", s, seen[s])
		}
	}
}

// In any two parts, and one by one, the commands do the same as in one.
func TestStepsInTwoParts(t *testing.T) {
	for seed := range 12 {
		w := newStateWalker(1000+seed, map[string]int{})
		for range 150 {
			w.step(t)
		}
		start, list := w.state, []impl.Command{}
		for range 24 {
			c := w.someCommand()
			list = append(list, c)
			w.state, _ = impl.Step(w.state, c)
		}
		all, replies := checkSteps(t, start, list)
		if !isSameState(all, w.state) {
			t.Fatal("one by one:", w.state, "in one:", all)
		}
		for place := range len(list) + 1 {
			half, first := checkSteps(t, start, list[:place])
			whole, second := checkSteps(t, half, list[place:])
			if !isSameState(whole, all) || !slices.Equal(slices.Concat(first, second), replies) {
				t.Fatal("in two parts:", place, whole, all)
			}
		}
	}
}

// Full in every way: as many pools, blocks, leases and sessions as may be.
func TestStepOfFullStates(t *testing.T) {
	s := impl.State{Plan: poolsOf(mostPools, 6), Desk: sessionsOf(mostSessions), Count: 5}
	s.Plan = filled(s.Plan, 3, mostBlocks)
	s.Book = impl.Book{Token: 100, Now: 50}
	for i := range mostLeases {
		b := s.Plan.Blocks[i%mostBlocks]
		at := b.At.At
		at.Lo += i / mostBlocks
		s.Book = withLease(s.Book, impl.Lease{At: at, Owner: b.Owner, Token: i + 1, Until: 90 + i})
	}
	if !checkState(t, s) {
		t.Fatal("not right")
	}
	id, seq := s.Desk.Sessions[1].Id, s.Desk.Sessions[1].Last+1
	ask := func(c impl.Command) string {
		c.Session, c.Seq, c.Now = id, seq, 50
		_, reply := checkStep(t, s, c)
		return reply
	}
	block := s.Plan.Blocks[0]
	for _, c := range []struct {
		command impl.Command
		want    string
	}{
		{impl.Command{Kind: impl.CmdAddPool, At: prefixAt(narrow(0x7f000000), 16), Bits: 20}, "error 2"},
		{impl.Command{Kind: impl.CmdCarve, At: s.Plan.Pools[0].At, Owner: "ann"}, "error 2"},
		{impl.Command{Kind: impl.CmdGrant, At: block.At, Owner: block.Owner, Span: 5}, "error 12"},
		{impl.Command{Kind: impl.CmdTake, Host: addrOfNumber(false, endOf(block.At).Sub(endOf(block.At), numberOf(narrow(1)))), Owner: block.Owner, Span: 5}, "error 12"},
		{impl.Command{Kind: impl.CmdDropPool, At: s.Plan.Pools[3].At}, "error 6"},
		{impl.Command{Kind: impl.CmdDropPool, At: s.Plan.Pools[4].At}, "ok"},
	} {
		if reply := ask(c.command); reply != c.want {
			t.Errorf("%s: %q, not %q", textAny(c.command), reply, c.want)
		}
	}
	if _, reply := checkStep(t, s, impl.Command{Kind: impl.CmdOpen, Now: 50}); reply != "error sessions" {
		t.Error("open:", reply)
	}
	empty, reply := checkStep(t, s, impl.Command{Kind: impl.CmdTime, Now: lastTime})
	if reply != "time 1000000000" || len(empty.Book.Leases) != 0 || len(empty.Desk.Sessions) != 0 || len(empty.Plan.Blocks) != mostBlocks {
		t.Error("at the end of time:", reply, empty)
	}
}

// What was answered stays, whatever happens to what was handed in, and a second call answers the same.
func TestStatesStayApart(t *testing.T) {
	calls := map[string]func(impl.State) (impl.State, string){
		"none": func(s impl.State) (impl.State, string) { c, r := impl.Steps(s, nil); return c, fmt.Sprint(r) },
		"many": func(s impl.State) (impl.State, string) { c, r := impl.Steps(s, kindLines(t)); return c, fmt.Sprint(r) },
		"form": func(s impl.State) (impl.State, string) { return impl.Step(s, impl.Command{}) },
		"wrong": func(s impl.State) (impl.State, string) {
			s.Count = -1
			return impl.Step(s, impl.Command{Kind: impl.CmdTime})
		},
		"wrong, none": func(s impl.State) (impl.State, string) {
			s.Desk.Next = 0
			c, r := impl.Steps(s, nil)
			return c, fmt.Sprint(r)
		},
	}
	for i, c := range kindLines(t) {
		calls[strconv.Itoa(i)+" "+textAny(c)] = func(s impl.State) (impl.State, string) { return impl.Step(s, c) }
	}
	for name, call := range calls {
		given := plainState(t)
		first, told := call(given)
		kept := cloneState(first)
		second, again := call(given)
		if told != again || !isSameState(second, kept) {
			t.Error("called twice:", name, told, again)
		}
		scribbleState(second)
		if !isSameState(first, kept) {
			t.Error("two answers share memory:", name)
		}
		scribbleState(given)
		if !isSameState(first, kept) {
			t.Error("changed with what was handed in:", name)
		}
	}
	scribbleState(impl.StateNew())
	if s := impl.StateNew(); !isSameState(s, impl.State{Desk: impl.Desk{Next: 1}}) {
		t.Error("StateNew:", s)
	}
	_, replies := impl.Steps(plainState(t), kindLines(t))
	clear(replies[:cap(replies)])
	if _, again := impl.Steps(plainState(t), kindLines(t)); again[0] != "time 30" {
		t.Error("replies:", again)
	}
}
