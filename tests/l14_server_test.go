package tests

import (
	"fmt"
	"math"
	"math/rand"
	"slices"
	"strings"
	"testing"

	"loop.example/g00113/impl"
)

const (
	waitTicks  = 6
	heartTicks = 2
	mostTicks  = 1000
	mostSent   = 8
	lastAt     = 1000000
)

// serverOf waits from the start on, with nothing agreed behind its snapshot.
func serverOf(id int, k impl.Keep) impl.Server {
	return impl.Server{Id: id, K: k, Commit: k.Base, Wait: waitTicks}
}

// due is one tick ahead of its Wait.
func due(s impl.Server) impl.Server {
	s.Elapsed = s.Wait - 1
	return s
}

// leaderOf has sent each Id all, and knows that it has the same up to match.
func leaderOf(id int, k impl.Keep, commit int, match int) impl.Server {
	s := impl.Server{Id: id, K: k, Role: 2, Lead: id, Commit: commit, Wait: waitTicks}
	for i := 1; i <= mostNodes; i++ {
		s.Next[i], s.Match[i] = lastOf(k)+1, match
	}
	return s
}

// candidateOf has asked for votes, and has its own.
func candidateOf(id int, k impl.Keep) impl.Server {
	s := serverOf(id, k)
	s.Role, s.Votes, s.K.Vote = 1, []int{id}, id
	return s
}

func withServer(s impl.Server, change func(*impl.Server)) impl.Server {
	s = cloneServer(s)
	change(&s)
	return s
}

func withMsg(m impl.Msg, change func(*impl.Msg)) impl.Msg {
	m = cloneMsg(m)
	change(&m)
	return m
}

func cloneServer(s impl.Server) impl.Server {
	s.K = cloneKeep(s.K)
	s.Votes = slices.Clone(s.Votes)
	return s
}

func cloneMsg(m impl.Msg) impl.Msg {
	m.Entries = cloneKeep(impl.Keep{Log: m.Entries}).Log
	m.Data = slices.Clone(m.Data)
	m.Group = cloneGroup(m.Group)
	return m
}

func cloneMsgs(list []impl.Msg) []impl.Msg {
	own := []impl.Msg{}
	for _, m := range list {
		own = append(own, cloneMsg(m))
	}
	return own
}

func sameServer(a impl.Server, b impl.Server) bool {
	numbers := a.Id == b.Id && a.Role == b.Role && a.Lead == b.Lead && a.Commit == b.Commit && a.Elapsed == b.Elapsed && a.Wait == b.Wait
	return numbers && a.Next == b.Next && a.Match == b.Match && slices.Equal(a.Votes, b.Votes) && sameKeep(a.K, b.K)
}

func sameMsg(a impl.Msg, b impl.Msg) bool {
	ends := a.Kind == b.Kind && a.From == b.From && a.To == b.To && a.Term == b.Term
	numbers := a.Index == b.Index && a.LogTerm == b.LogTerm && a.Commit == b.Commit && a.Ok == b.Ok
	return ends && numbers && slices.EqualFunc(a.Entries, b.Entries, sameEntry) && slices.Equal(a.Data, b.Data) && sameGroup(a.Group, b.Group)
}

func sameMsgs(a []impl.Msg, b []impl.Msg) bool {
	return slices.EqualFunc(a, b, sameMsg)
}

func serverText(s impl.Server) string {
	return fmt.Sprintf("{id %d, role %d, lead %d, commit %d, votes %v, next %v, match %v, %d of %d, %s}", s.Id, s.Role, s.Lead, s.Commit, s.Votes, s.Next, s.Match, s.Elapsed, s.Wait, keepText(s.K))
}

func msgText(m impl.Msg) string {
	words := []string{fmt.Sprintf("{kind %d, %d to %d, term %d, index %d of %d, commit %d, %v, %d bytes, %v %v", m.Kind, m.From, m.To, m.Term, m.Index, m.LogTerm, m.Commit, m.Ok, len(m.Data), m.Group.Now, m.Group.Next)}
	for _, e := range m.Entries {
		words = append(words, entryText(e))
	}
	return strings.Join(words, " ") + "}"
}

func msgsText(list []impl.Msg) string {
	words := []string{}
	for _, m := range list {
		words = append(words, msgText(m))
	}
	return strings.Join(words, " ")
}

// serverRight reads the chapter's list one by one. No Id has the place 0, so nothing is asked of it where a Leader counts.
func serverRight(s impl.Server) bool {
	if !isWithin(s.Id, 1, mostNodes) || !keepRight(s.K) {
		return false
	}
	if s.Role != 0 && s.Role != 1 && s.Role != 2 {
		return false
	}
	if s.Lead < 0 || s.Lead > mostNodes || s.Commit < s.K.Base || s.Commit > lastOf(s.K) || !rowRight(s.Votes) {
		return false
	}
	for id := range 8 {
		next, match := s.Next[id], s.Match[id]
		if s.Role == 2 && id > 0 && (next < 1 || next > lastOf(s.K)+1 || match < 0 || match > lastOf(s.K)) {
			return false
		}
		if s.Role != 2 && (next != 0 || match != 0) {
			return false
		}
	}
	return isWithin(s.Elapsed, 0, mostTicks) && isWithin(s.Wait, 0, mostTicks)
}

// msgRight takes what a kind names out of the message: what is left has nothing.
func msgRight(m impl.Msg) bool {
	if !isWithin(m.From, 1, mostNodes) || !isWithin(m.To, 1, mostNodes) || !isWithin(m.Term, 1, lastTerm) {
		return false
	}
	if !isWithin(m.Index, 0, lastAt) || !isWithin(m.LogTerm, 0, m.Term) || !isWithin(m.Commit, 0, lastAt) || len(m.Entries) > 8 || len(m.Data) > mostData {
		return false
	}
	for i, e := range m.Entries {
		if !entryRight(e) || !isWithin(e.Term, m.LogTerm, m.Term) || i > 0 && m.Entries[i-1].Term > e.Term {
			return false
		}
	}
	left := m
	switch m.Kind {
	case 1:
		left.Index, left.LogTerm = 0, 0
	case 2:
		left.Ok = false
	case 3:
		left.Index, left.LogTerm, left.Commit, left.Entries = 0, 0, 0, nil
	case 4:
		left.Index, left.Ok = 0, false
	case 5:
		left.Index, left.LogTerm, left.Data, left.Group = 0, 0, nil, impl.Group{}
		if !groupRight(m.Group) {
			return false
		}
	default:
		return false
	}
	return sameMsg(left, impl.Msg{Kind: m.Kind, From: m.From, To: m.To, Term: m.Term})
}

func restartWanted(id int, k impl.Keep) impl.Server {
	if id < 1 || id > mostNodes || !keepRight(k) {
		return impl.Server{}
	}
	return impl.Server{Id: id, K: k, Commit: k.Base, Wait: waitTicks}
}

func hasRoomWanted(k impl.Keep) bool {
	return len(k.Log) < mostLog && lastOf(k) < lastAt
}

// sentWanted looks each entry up by its index.
func sentWanted(s impl.Server, to int) impl.Msg {
	m := impl.Msg{From: s.Id, To: to, Term: s.K.Term}
	if s.Next[to] <= s.K.Base {
		m.Kind, m.Index, m.LogTerm, m.Data, m.Group = 5, s.K.Base, s.K.BaseTerm, s.K.Snap, s.K.Group
		return m
	}
	m.Kind, m.Index, m.Commit = 3, s.Next[to]-1, s.Commit
	m.LogTerm, _ = termWanted(s.K, m.Index)
	m.Entries = entriesOf(s.K, func(index int) bool { return index > m.Index && index <= m.Index+mostSent })
	return m
}

func othersWanted(s impl.Server) []int {
	ids := []int{}
	for _, id := range membersWanted(groupWanted(s.K)) {
		if id != s.Id {
			ids = append(ids, id)
		}
	}
	return ids
}

func allSentWanted(s impl.Server) []impl.Msg {
	list := []impl.Msg{}
	for _, id := range othersWanted(s) {
		list = append(list, sentWanted(s, id))
	}
	return list
}

// ownedWanted has an entry more, of its own term, which it has itself.
func ownedWanted(s impl.Server, e impl.Entry) impl.Server {
	e.Term = s.K.Term
	s.K.Log = slices.Concat(s.K.Log, []impl.Entry{e})
	s.Match[s.Id] = lastOf(s.K)
	return s
}

// agreedWanted tries every index above Commit from below.
func agreedWanted(s impl.Server) int {
	best := s.Commit
	for index := s.Commit + 1; index <= lastOf(s.K); index++ {
		have := []int{}
		for id, match := range s.Match {
			if id > 0 && match >= index {
				have = append(have, id)
			}
		}
		if e, _ := entryAt(s.K, index); e.Term == s.K.Term && quorumWanted(groupWanted(s.K), have) {
			best = index
		}
	}
	return best
}

func groupAtWanted(k impl.Keep) int {
	place := 0
	for i, e := range k.Log {
		if e.Kind == 3 {
			place = k.Base + i + 1
		}
	}
	return place
}

func agreeWanted(s impl.Server) impl.Server {
	for {
		s.Commit = agreedWanted(s)
		if groupAtWanted(s.K) > s.Commit {
			return s
		}
		g := groupWanted(s.K)
		if len(g.Next) == 0 {
			if !slices.Contains(g.Now, s.Id) {
				s.Role, s.Lead, s.Votes, s.Next, s.Match = 0, 0, nil, [8]int{}, [8]int{}
			}
			return s
		}
		if !hasRoomWanted(s.K) {
			return s
		}
		s = ownedWanted(s, impl.Entry{Kind: 3, Data: groupBytesWanted(groupOf(g.Next))})
	}
}

// leadWanted is asked of one with room for an entry.
func leadWanted(s impl.Server) impl.Server {
	s.Role, s.Lead, s.Votes, s.Elapsed, s.Match = 2, s.Id, nil, 0, [8]int{}
	for id := 1; id <= mostNodes; id++ {
		s.Next[id] = lastOf(s.K) + 1
	}
	return agreeWanted(ownedWanted(s, impl.Entry{Kind: 1}))
}

func standWanted(s impl.Server, coin int) (impl.Server, []impl.Msg, bool) {
	s.K.Term, s.K.Vote, s.Role, s.Lead, s.Votes, s.Wait = s.K.Term+1, s.Id, 1, 0, []int{s.Id}, waitTicks
	if coin > 0 {
		s.Wait += coin % waitTicks
	}
	if quorumWanted(groupWanted(s.K), []int{s.Id}) {
		if !hasRoomWanted(s.K) {
			return s, nil, false
		}
		s = leadWanted(s)
		return s, allSentWanted(s), true
	}
	list := []impl.Msg{}
	for _, id := range othersWanted(s) {
		term, _ := termWanted(s.K, lastOf(s.K))
		list = append(list, impl.Msg{Kind: 1, From: s.Id, To: id, Term: s.K.Term, Index: lastOf(s.K), LogTerm: term})
	}
	return s, list, true
}

// tickWanted has a Leader that came in behind HeartTicks beat where it cannot count on; one of no term, which comes of no tick, has no message to send.
func tickWanted(s impl.Server, coin int) (impl.Server, []impl.Msg) {
	if !serverRight(s) {
		return s, nil
	}
	was := s
	s.Elapsed++
	if s.Role == 2 {
		if s.Elapsed == heartTicks || s.Elapsed == mostTicks+1 {
			s.Elapsed = 0
			if s.K.Term == 0 {
				return s, nil
			}
			return s, allSentWanted(s)
		}
		return s, nil
	}
	if s.Elapsed < s.Wait {
		return s, nil
	}
	s.Elapsed = 0
	if !slices.Contains(membersWanted(groupWanted(s.K)), s.Id) || s.K.Term >= lastTerm {
		return s, nil
	}
	stood, list, ok := standWanted(s, coin)
	if !ok {
		return was, nil
	}
	return stood, list
}

// memory is all lists of what is handed in or answered, spare room too.
type memory struct {
	rows  [][]int
	bytes [][]byte
	logs  [][]impl.Entry
}

func (m *memory) addGroup(g impl.Group) {
	m.rows = append(m.rows, g.Now, g.Next)
}

func (m *memory) addLog(list []impl.Entry) {
	m.logs = append(m.logs, list)
	for _, e := range list[:cap(list)] {
		m.bytes = append(m.bytes, e.Data)
	}
}

func (m *memory) addServer(s impl.Server) {
	m.addGroup(s.K.Group)
	m.addLog(s.K.Log)
	m.bytes = append(m.bytes, s.K.Snap)
	m.rows = append(m.rows, s.Votes)
}

func (m *memory) addMsgs(list ...impl.Msg) {
	for _, x := range list {
		m.addGroup(x.Group)
		m.addLog(x.Entries)
		m.bytes = append(m.bytes, x.Data)
	}
}

func (m *memory) text() string {
	words := []string{}
	for _, row := range m.rows {
		words = append(words, fmt.Sprint(len(row), row[:cap(row)]))
	}
	for _, list := range m.bytes {
		words = append(words, fmt.Sprint(len(list)), string(list[:cap(list)]))
	}
	for _, list := range m.logs {
		for _, e := range list[:cap(list)] {
			words = append(words, fmt.Sprint(e.Term, e.Kind, len(e.Data)))
		}
	}
	return strings.Join(words, "|")
}

// marked writes each list's own number over all of it, and tells whether it stands there still behind all others.
func marked[T any](lists [][]T, mark func(i int) T, same func(a T, b T) bool) bool {
	for i, list := range lists {
		for j := range list[:cap(list)] {
			list[:cap(list)][j] = mark(i)
		}
	}
	for i, list := range lists {
		for _, x := range list[:cap(list)] {
			if !same(x, mark(i)) {
				return false
			}
		}
	}
	return true
}

// scribble writes over all of it, and tells whether no two of the lists share any.
func (m *memory) scribble() bool {
	sameNumber := func(a int, b int) bool { return a == b }
	sameByte := func(a byte, b byte) bool { return a == b }
	// There may be more lists than a byte can tell, so two bytes do.
	ok := marked(m.bytes, func(i int) byte { return byte(i) }, sameByte)
	ok = marked(m.bytes, func(i int) byte { return byte(i>>8) + 1 }, sameByte) && ok
	ok = marked(m.rows, func(i int) int { return -1000 - i }, sameNumber) && ok
	return marked(m.logs, func(i int) impl.Entry { return impl.Entry{Term: -1000 - i} }, sameEntry) && ok
}

func roomyServer(s impl.Server) impl.Server {
	s.K = roomyKeep(s.K)
	s.Votes = roomyRow(s.Votes)[:len(s.Votes)]
	return s
}

func roomyMsg(m impl.Msg) impl.Msg {
	m.Entries = roomyKeep(impl.Keep{Term: m.Term, Log: m.Entries}).Log
	m.Data = roomy(m.Data, []byte("spare room"))
	m.Group.Now = roomyRow(m.Group.Now)[:len(m.Group.Now)]
	m.Group.Next = roomyRow(m.Group.Next)[:len(m.Group.Next)]
	return m
}

// askedServer hands s in with spare room behind its lists, and fails if the call changes them or the room, answers any of their memory or one memory twice, or answers otherwise when it is called again behind an answer that was written over.
func askedServer(t *testing.T, s impl.Server, call func(impl.Server) (impl.Server, []impl.Msg)) (impl.Server, []impl.Msg) {
	t.Helper()
	given := roomyServer(s)
	own := &memory{}
	own.addServer(given)
	ahead := own.text()
	first, list := call(given)
	if own.text() != ahead {
		t.Fatalf("%s was changed, or the room behind", serverText(s))
	}
	answer, msgs := cloneServer(first), cloneMsgs(list)
	theirs := &memory{}
	theirs.addServer(first)
	theirs.addMsgs(list...)
	if !theirs.scribble() {
		t.Fatalf("two lists of what was answered for %s have one memory", serverText(s))
	}
	clear(list[:cap(list)])
	if own.text() != ahead {
		t.Fatalf("what was answered has the memory of %s", serverText(s))
	}
	second, again := call(given)
	own.scribble()
	if !sameServer(second, answer) || !sameMsgs(again, msgs) {
		t.Fatalf("of %s first %s, %s, then %s, %s", serverText(s), serverText(answer), msgsText(msgs), serverText(second), msgsText(again))
	}
	return answer, msgs
}

func checkServer(t *testing.T, s impl.Server) bool {
	t.Helper()
	ok := false
	askedServer(t, s, func(x impl.Server) (impl.Server, []impl.Msg) {
		ok = impl.ServerOk(x)
		return impl.Server{}, nil
	})
	if ok != serverRight(s) {
		t.Fatalf("ServerOk(%s) = %v", serverText(s), ok)
	}
	return ok
}

func checkMsg(t *testing.T, m impl.Msg) bool {
	t.Helper()
	given, own := roomyMsg(m), &memory{}
	own.addMsgs(given)
	ahead := own.text()
	ok := impl.MsgOk(given)
	if ok != msgRight(m) {
		t.Fatalf("MsgOk(%s) = %v", msgText(m), ok)
	}
	if own.text() != ahead {
		t.Fatalf("MsgOk(%s) changed it, or the room behind", msgText(m))
	}
	return ok
}

func checkRestart(t *testing.T, id int, k impl.Keep) impl.Server {
	t.Helper()
	got, _ := askedServer(t, impl.Server{K: k}, func(x impl.Server) (impl.Server, []impl.Msg) {
		return impl.Restart(id, x.K), nil
	})
	if want := restartWanted(id, k); !sameServer(got, want) {
		t.Fatalf("Restart(%d, %s) = %s, not %s", id, keepText(k), serverText(got), serverText(want))
	}
	return got
}

// checkTicked is promise 14 of one tick: what was right is right, and the term rises by one at most, with the own vote.
func checkTicked(t *testing.T, s impl.Server, got impl.Server, msgs []impl.Msg) {
	t.Helper()
	if !serverRight(s) {
		return
	}
	if !impl.ServerOk(got) || !serverRight(got) {
		t.Fatalf("by a tick of %s comes %s, which is not right", serverText(s), serverText(got))
	}
	for _, m := range msgs {
		if !impl.MsgOk(m) || !msgRight(m) {
			t.Fatalf("by a tick of %s comes %s, which is not right", serverText(s), msgText(m))
		}
	}
	stays := got.K.Term == s.K.Term && got.K.Vote == s.K.Vote
	stands := got.K.Term == s.K.Term+1 && got.K.Vote == s.Id && got.Role != 0 && s.Role != 2
	if !stays && !stands || got.Id != s.Id || got.Commit < s.Commit {
		t.Fatalf("by a tick of %s comes %s", serverText(s), serverText(got))
	}
}

func checkTick(t *testing.T, s impl.Server, coin int) (impl.Server, []impl.Msg) {
	t.Helper()
	got, msgs := askedServer(t, s, func(x impl.Server) (impl.Server, []impl.Msg) { return impl.Tick(x, coin) })
	want, list := tickWanted(s, coin)
	if !sameServer(got, want) || !sameMsgs(msgs, list) {
		t.Fatalf("Tick(%s, %d) = %s, %s, not %s, %s", serverText(s), coin, serverText(got), msgsText(msgs), serverText(want), msgsText(list))
	}
	checkTicked(t, s, got, msgs)
	return got, msgs
}

// quickTick asks the same without a look at the memory.
func quickTick(t *testing.T, s impl.Server, coin int) (impl.Server, []impl.Msg) {
	t.Helper()
	got, msgs := impl.Tick(s, coin)
	want, list := tickWanted(s, coin)
	if !sameServer(got, want) || !sameMsgs(msgs, list) {
		t.Fatalf("Tick(%s, %d) = %s, %s, not %s, %s", serverText(s), coin, serverText(got), msgsText(msgs), serverText(want), msgsText(list))
	}
	checkTicked(t, s, got, msgs)
	return got, msgs
}

func rightServers() map[string]impl.Server {
	k := someKept()
	list := map[string]impl.Server{
		"new":                  serverOf(1, kept(0, 0, 0, 0, "")),
		"new, last Id":         serverOf(7, kept(0, 0, 0, 0, "")),
		"no member":            serverOf(5, k),
		"a snapshot":           serverOf(2, k),
		"agreed in part":       withServer(serverOf(2, k), func(s *impl.Server) { s.Commit = 5 }),
		"all agreed":           withServer(serverOf(2, k), func(s *impl.Server) { s.Commit = 6 }),
		"who leads":            withServer(serverOf(2, k), func(s *impl.Server) { s.Lead = 1 }),
		"last who leads":       withServer(serverOf(2, k), func(s *impl.Server) { s.Lead = 7 }),
		"it leads, a follower": withServer(serverOf(2, k), func(s *impl.Server) { s.Lead = 2 }),
		"a follower's votes":   withServer(serverOf(2, k), func(s *impl.Server) { s.Votes = []int{1, 7} }),
		"no wait":              withServer(serverOf(2, k), func(s *impl.Server) { s.Wait = 0 }),
		"most ticks":           withServer(serverOf(2, k), func(s *impl.Server) { s.Elapsed, s.Wait = mostTicks, mostTicks }),
		"behind its wait":      withServer(serverOf(2, k), func(s *impl.Server) { s.Elapsed = 90 }),
		"a candidate":          candidateOf(3, k),
		"a candidate's votes":  withServer(candidateOf(3, k), func(s *impl.Server) { s.Votes = upTo(7) }),
		"no votes":             withServer(candidateOf(3, k), func(s *impl.Server) { s.Votes = nil }),
		"votes of others":      withServer(candidateOf(3, k), func(s *impl.Server) { s.Votes = []int{5, 6} }),
		"a leader":             leaderOf(1, k, 5, 4),
		"a leader of no term":  leaderOf(1, kept(0, 0, 0, 0, ""), 0, 0),
		"led by another":       withServer(leaderOf(1, k, 5, 4), func(s *impl.Server) { s.Lead = 3 }),
		"a leader's votes":     withServer(leaderOf(1, k, 5, 4), func(s *impl.Server) { s.Votes = []int{2} }),
		"known of nobody":      leaderOf(1, k, 3, 0),
		"known of all":         leaderOf(1, k, 6, 6),
		"a leader, no member":  leaderOf(6, k, 5, 4),
		"a leader's full log":  leaderOf(1, kept(50, 1, 0, 0, "", risingLog(1, 50, mostLog)...), 7, 60),
		"a full log":           serverOf(1, kept(50, 1, 0, 0, "", risingLog(1, 50, mostLog)...)),
		"last index":           serverOf(1, kept(lastTerm, 7, lastBase, lastTerm, "snap")),
		"up to the last one":   serverOf(1, kept(lastTerm, 7, lastBase-mostLog, 5, "snap", risingLog(5, lastTerm, mostLog)...)),
	}
	for id := 1; id <= mostNodes; id++ {
		list[fmt.Sprint("first entry next of ", id)] = withServer(leaderOf(1, k, 5, 4), func(s *impl.Server) { s.Next[id] = 1 })
		list[fmt.Sprint("last entry next of ", id)] = withServer(leaderOf(1, k, 5, 4), func(s *impl.Server) { s.Next[id] = 6 })
		list[fmt.Sprint("nothing known of ", id)] = withServer(leaderOf(1, k, 5, 4), func(s *impl.Server) { s.Match[id] = 0 })
		list[fmt.Sprint("all known of ", id)] = withServer(leaderOf(1, k, 5, 4), func(s *impl.Server) { s.Match[id] = 6 })
	}
	return list
}

// wrongFields are values that no right server has, field by field, of one with the entries 4 to 6 behind a snapshot.
func wrongFields() map[string]func(*impl.Server) {
	list := map[string]func(*impl.Server){}
	number := func(name string, field func(*impl.Server) *int, values ...int) {
		for _, n := range append(values, math.MinInt, math.MaxInt) {
			list[fmt.Sprint(name, " ", n)] = func(s *impl.Server) { *field(s) = n }
		}
	}
	number("Id", func(s *impl.Server) *int { return &s.Id }, -1, 0, 8, 257)
	number("Role", func(s *impl.Server) *int { return &s.Role }, -1, 3, 258)
	number("Lead", func(s *impl.Server) *int { return &s.Lead }, -1, 8, 256)
	number("Commit", func(s *impl.Server) *int { return &s.Commit }, -1, 0, 2, 7, 1000000)
	number("Elapsed", func(s *impl.Server) *int { return &s.Elapsed }, -1, 1001)
	number("Wait", func(s *impl.Server) *int { return &s.Wait }, -1, 1001)
	for name, row := range wrongRows() {
		list["Votes "+name] = func(s *impl.Server) { s.Votes = row }
	}
	for name, k := range wrongKeeps() {
		list["K "+name] = func(s *impl.Server) { s.K, s.Commit = k, max(0, min(k.Base, lastAt)) }
	}
	return list
}

func wrongPlaces() map[string]impl.Server {
	list := map[string]impl.Server{}
	leader := leaderOf(1, someKept(), 5, 4)
	others := map[string]impl.Server{"follower": serverOf(1, someKept()), "candidate": candidateOf(1, someKept())}
	for id := 1; id <= mostNodes; id++ {
		for _, n := range []int{0, -1, 8, 1000000, math.MinInt, math.MaxInt} {
			list[fmt.Sprint("Next of ", id, ": ", n)] = withServer(leader, func(s *impl.Server) { s.Next[id] = n })
		}
		for _, n := range []int{-1, 7, 1000000, math.MinInt, math.MaxInt} {
			list[fmt.Sprint("Match of ", id, ": ", n)] = withServer(leader, func(s *impl.Server) { s.Match[id] = n })
		}
		for name, other := range others {
			for _, n := range []int{1, 4, 7, -1, math.MinInt, math.MaxInt} {
				list[fmt.Sprint(name, "'s Next of ", id, ": ", n)] = withServer(other, func(s *impl.Server) { s.Next[id] = n })
				list[fmt.Sprint(name, "'s Match of ", id, ": ", n)] = withServer(other, func(s *impl.Server) { s.Match[id] = n })
			}
		}
	}
	list["a leader's places, a follower"] = withServer(leader, func(s *impl.Server) { s.Role = 0 })
	list["a leader's places, a candidate"] = withServer(leader, func(s *impl.Server) { s.Role = 1 })
	list["a follower's places, a leader"] = withServer(serverOf(1, someKept()), func(s *impl.Server) { s.Role = 2 })
	return list
}

func wrongServers() map[string]impl.Server {
	list := wrongPlaces()
	for name, change := range wrongFields() {
		list["a follower's "+name] = withServer(serverOf(1, someKept()), change)
		list["a candidate's "+name] = withServer(candidateOf(1, someKept()), change)
		list["a leader's "+name] = withServer(leaderOf(1, someKept(), 5, 4), change)
	}
	list["zero"] = impl.Server{}
	list["an Id alone"] = impl.Server{Id: 1}
	return list
}

func TestServerConstants(t *testing.T) {
	got := []int{impl.Follower, impl.Candidate, impl.Leader, impl.WaitTicks, impl.HeartTicks, impl.MsgVote, impl.MsgVoted, impl.MsgAppend, impl.MsgAppended, impl.MsgSnap}
	if !slices.Equal(got, []int{0, 1, 2, 6, 2, 1, 2, 3, 4, 5}) {
		t.Error(got)
	}
}

func TestServerOkOfRightAndWrongOnes(t *testing.T) {
	for name, s := range rightServers() {
		if !checkServer(t, s) {
			t.Error("refused:", name, serverText(s))
		}
	}
	for name, s := range wrongServers() {
		if checkServer(t, s) {
			t.Error("taken:", name, serverText(s))
		}
	}
}

// Each number of each role goes through its bounds and what lies around them; the entries are 4 to 6.
func TestServerOkAtItsBounds(t *testing.T) {
	roles := []impl.Server{serverOf(1, someKept()), candidateOf(1, someKept()), leaderOf(1, someKept(), 5, 4)}
	type bounds struct {
		field       func(*impl.Server) *int
		least, most int
	}
	for role, base := range roles {
		list := []bounds{
			{func(s *impl.Server) *int { return &s.Id }, 1, 7},
			{func(s *impl.Server) *int { return &s.Lead }, 0, 7},
			{func(s *impl.Server) *int { return &s.Commit }, 3, 6},
			{func(s *impl.Server) *int { return &s.Elapsed }, 0, 1000},
			{func(s *impl.Server) *int { return &s.Wait }, 0, 1000},
			{func(s *impl.Server) *int { return &s.K.Term }, 3, 1000000},
			{func(s *impl.Server) *int { return &s.K.Vote }, 0, 7},
		}
		for id := 1; id <= mostNodes; id++ {
			next := func(s *impl.Server) *int { return &s.Next[id] }
			match := func(s *impl.Server) *int { return &s.Match[id] }
			if role == 2 {
				list = append(list, bounds{next, 1, 7}, bounds{match, 0, 6})
			} else {
				list = append(list, bounds{next, 0, 0}, bounds{match, 0, 0})
			}
		}
		for i, b := range list {
			for n := b.least - 3; n <= b.least+9; n++ {
				got := checkServer(t, withServer(base, func(s *impl.Server) { *b.field(s) = n }))
				if got != (b.least <= n && n <= b.most) {
					t.Errorf("role %d, field %d: %d is %v", role, i, n, got)
				}
			}
			for n := b.most - 2; n <= b.most+2; n++ {
				got := checkServer(t, withServer(base, func(s *impl.Server) { *b.field(s) = n }))
				if got != (b.least <= n && n <= b.most) {
					t.Errorf("role %d, field %d: %d is %v", role, i, n, got)
				}
			}
		}
	}
}

// Commit goes from the base to the last index, wherever these lie.
func TestServerOkOfEveryCommit(t *testing.T) {
	for base := range 4 {
		for count := range 4 {
			k := kept(2, 0, base, min(base, 1), "", noops(2, count)...)
			for commit := -2; commit <= 8; commit++ {
				for _, s := range []impl.Server{serverOf(2, k), leaderOf(2, k, 0, 0)} {
					s.Commit = commit
					if got := checkServer(t, s); got != (base <= commit && commit <= base+count) {
						t.Errorf("base %d, %d entries: commit %d is %v", base, count, commit, got)
					}
				}
			}
			for n := -2; n <= 9; n++ {
				next := withServer(leaderOf(2, k, base, 0), func(s *impl.Server) { s.Next[2] = n })
				match := withServer(leaderOf(2, k, base, 0), func(s *impl.Server) { s.Match[2] = n })
				if got := checkServer(t, next); got != (1 <= n && n <= base+count+1) {
					t.Errorf("base %d, %d entries: next %d is %v", base, count, n, got)
				}
				if got := checkServer(t, match); got != (0 <= n && n <= base+count) {
					t.Errorf("base %d, %d entries: match %d is %v", base, count, n, got)
				}
			}
		}
	}
}

func TestServerOkOfEveryRowOfVotes(t *testing.T) {
	count := 0
	eachShortRow([]int{0, 1, 2, 3, 7, 8, -1}, 4, func(row []int) {
		s := serverOf(1, kept(1, 0, 0, 0, ""))
		s.Votes = row
		right := true
		for i, id := range row {
			right = right && id >= 1 && id <= 7 && (i == 0 || row[i-1] < id)
		}
		if got := impl.ServerOk(s); got != right {
			t.Errorf("%v: %v", row, got)
		}
		count++
	})
	for bits := range allRows {
		s := candidateOf(1, kept(1, 0, 0, 0, ""))
		if s.Votes = idsOf(bits); !checkServer(t, s) {
			t.Error(s.Votes)
		}
	}
	if count < 2000 {
		t.Error(count)
	}
}

func voteMsg() impl.Msg {
	return impl.Msg{Kind: 1, From: 1, To: 2, Term: 5, Index: 9, LogTerm: 4}
}

func votedMsg() impl.Msg {
	return impl.Msg{Kind: 2, From: 1, To: 2, Term: 5, Ok: true}
}

func appendMsg() impl.Msg {
	return impl.Msg{Kind: 3, From: 1, To: 2, Term: 5, Index: 9, LogTerm: 3, Entries: []impl.Entry{noop(3), asked(4, "x"), regroup(5, 7, 12)}, Commit: 8}
}

func appendedMsg() impl.Msg {
	return impl.Msg{Kind: 4, From: 1, To: 2, Term: 5, Index: 9, Ok: true}
}

func snapMsg() impl.Msg {
	return impl.Msg{Kind: 5, From: 1, To: 2, Term: 5, Index: 9, LogTerm: 4, Data: []byte("snap"), Group: groupOf([]int{1, 2, 3}, 3, 4)}
}

func fullMsgs() []impl.Msg {
	return []impl.Msg{voteMsg(), votedMsg(), appendMsg(), appendedMsg(), snapMsg()}
}

// msgChanges are what may be done to a field, and of which kinds a right message stays right then.
func msgChanges() map[string]struct {
	change func(*impl.Msg)
	kinds  []int
} {
	type change = struct {
		change func(*impl.Msg)
		kinds  []int
	}
	all, none := []int{1, 2, 3, 4, 5}, []int{}
	list := map[string]change{}
	number := func(name string, field func(*impl.Msg) *int, kinds []int, values ...int) {
		for _, n := range values {
			list[fmt.Sprint(name, " ", n)] = change{func(m *impl.Msg) { *field(m) = n }, kinds}
		}
	}
	from, to := func(m *impl.Msg) *int { return &m.From }, func(m *impl.Msg) *int { return &m.To }
	term, index := func(m *impl.Msg) *int { return &m.Term }, func(m *impl.Msg) *int { return &m.Index }
	logTerm, commit := func(m *impl.Msg) *int { return &m.LogTerm }, func(m *impl.Msg) *int { return &m.Commit }
	for name, id := range map[string]func(*impl.Msg) *int{"From": from, "To": to} {
		number(name, id, all, 1, 2, 3, 7)
		number(name, id, none, 0, 8, -1, 257, math.MinInt, math.MaxInt)
	}
	number("Term", term, all, 5, 6, lastTerm)
	number("Term", term, []int{2, 4}, 1, 2, 3)
	number("Term", term, []int{1, 2, 4, 5}, 4)
	number("Term", term, none, 0, -1, lastTerm+1, math.MinInt, math.MaxInt)
	number("Index", index, all, 0)
	number("Index", index, []int{1, 3, 4, 5}, 1, 2, lastAt-1, lastAt)
	number("Index", index, none, -1, lastAt+1, math.MinInt, math.MaxInt)
	number("LogTerm", logTerm, all, 0)
	number("LogTerm", logTerm, []int{1, 3, 5}, 1, 2, 3)
	number("LogTerm", logTerm, []int{1, 5}, 4, 5)
	number("LogTerm", logTerm, none, -1, 6, lastTerm, lastTerm+1, math.MinInt, math.MaxInt)
	number("Commit", commit, all, 0)
	number("Commit", commit, []int{3}, 1, 9, 10, 12, 13, 100, lastAt-1, lastAt)
	number("Commit", commit, none, -1, lastAt+1, math.MinInt, math.MaxInt)
	number("Kind", func(m *impl.Msg) *int { return &m.Kind }, none, 0, 6, -1, 7, 257, math.MinInt, math.MaxInt)
	list["not Ok"] = change{func(m *impl.Msg) { m.Ok = false }, all}
	list["Ok"] = change{func(m *impl.Msg) { m.Ok = true }, []int{2, 4}}
	data := func(name string, b []byte, kinds []int) {
		list["Data "+name] = change{func(m *impl.Msg) { m.Data = b }, kinds}
	}
	data("nil", nil, all)
	data("empty", []byte{}, all)
	data("of one byte", []byte{0}, []int{5})
	data("of one less", []byte(longText(mostData-1)), []int{5})
	data("of most", []byte(longText(mostData)), []int{5})
	data("of one more", []byte(longText(mostData+1)), none)
	data("of far more", []byte(longText(100000)), none)
	for name, g := range wrongGroups() {
		kinds := none
		if len(g.Now)+len(g.Next) == 0 {
			kinds = []int{1, 2, 3, 4}
		}
		list["Group "+name] = change{func(m *impl.Msg) { m.Group = g }, kinds}
	}
	for _, g := range []impl.Group{groupOf([]int{1}), groupOf([]int{7}), groupOf(upTo(7)), groupOf(upTo(7), upTo(7)...), groupOf([]int{2}, 3), groupOf([]int{4}, 4)} {
		list[fmt.Sprint("Group ", g)] = change{func(m *impl.Msg) { m.Group = g }, []int{5}}
	}
	entries := func(name string, kinds []int, log ...impl.Entry) {
		list["Entries "+name] = change{func(m *impl.Msg) { m.Entries = log }, kinds}
	}
	only := []int{3}
	entries("none", all)
	entries("one", only, noop(4))
	entries("of LogTerm", only, noop(3))
	entries("below LogTerm", none, noop(2))
	entries("first below LogTerm", none, noop(2), noop(3), noop(4))
	entries("of Term", only, noop(5))
	entries("above Term", none, noop(6))
	entries("last above Term", none, noop(3), noop(4), noop(6))
	entries("first above Term", none, noop(6), noop(5))
	entries("that fall", none, noop(5), noop(4))
	entries("that fall within", none, noop(3), noop(5), noop(4), noop(5))
	entries("that fall at last", none, noop(4), noop(4), noop(4), noop(3))
	entries("seven", only, noops(4, 7)...)
	entries("eight", only, noops(4, 8)...)
	entries("eight, rising", only, risingLog(3, 5, 8)...)
	entries("nine", none, noops(4, 9)...)
	entries("nine, rising", none, risingLog(3, 5, 9)...)
	entries("many", none, noops(4, 200)...)
	entries("long", only, asked(4, longText(mostCommand)))
	entries("too long", none, asked(4, longText(mostCommand+1)))
	entries("eight, last too long", none, append(noops(4, 7), asked(4, longText(mostCommand+1)))...)
	entries("of no kind", none, impl.Entry{Term: 4})
	entries("of kind 4", none, noop(4), impl.Entry{Term: 4, Kind: 4}, noop(4))
	entries("noop with data", none, impl.Entry{Term: 4, Kind: 1, Data: []byte{1}})
	entries("group of nobody", none, regroup(4, 0, 7))
	entries("group of 8", none, regroup(4, 128, 0))
	entries("zero", none, impl.Entry{})
	entries("of term 0", none, noop(0))
	return list
}

func TestMsgOkOfEachKindAndField(t *testing.T) {
	for _, m := range fullMsgs() {
		if !checkMsg(t, m) {
			t.Fatal("refused:", msgText(m))
		}
		bare := impl.Msg{Kind: m.Kind, From: 7, To: 1, Term: 1}
		if m.Kind == 5 {
			bare.Group = groupOf([]int{7})
		}
		if !checkMsg(t, bare) {
			t.Fatal("refused:", msgText(bare))
		}
		for name, c := range msgChanges() {
			changed := withMsg(m, c.change)
			want := slices.Contains(c.kinds, m.Kind)
			if got := checkMsg(t, changed); got != want {
				t.Errorf("%s: %v of %s", name, got, msgText(changed))
			}
		}
	}
	// A message that has nothing else is of a kind all the same.
	for _, kind := range []int{0, -1, 6, 7, math.MinInt, math.MaxInt} {
		for _, g := range []impl.Group{{}, groupOf([]int{1})} {
			if m := (impl.Msg{Kind: kind, From: 1, To: 2, Term: 1, Group: g}); checkMsg(t, m) {
				t.Error("taken:", msgText(m))
			}
		}
	}
	if checkMsg(t, impl.Msg{}) || checkMsg(t, impl.Msg{Kind: 1}) {
		t.Error("the zero message")
	}
}

// What a kind does not name is wrong in it; it takes what another one has only where it names all of that itself.
func TestMsgOkOfAnotherKind(t *testing.T) {
	takes := map[int][]int{1: {1, 3}, 2: {2, 4}, 3: {3}, 4: {4}, 5: {5}}
	for _, m := range fullMsgs() {
		for kind := -1; kind <= 8; kind++ {
			changed := withMsg(m, func(x *impl.Msg) { x.Kind = kind })
			if got := checkMsg(t, changed); got != slices.Contains(takes[m.Kind], kind) {
				t.Errorf("%v: %s", got, msgText(changed))
			}
		}
	}
	for _, c := range []struct {
		m    impl.Msg
		kind int
		want bool
	}{
		{impl.Msg{Kind: 1, From: 1, To: 2, Term: 5, Index: 9, LogTerm: 4}, 3, true},
		{impl.Msg{Kind: 1, From: 1, To: 2, Term: 5, Index: 9, LogTerm: 4}, 5, false},
		{impl.Msg{Kind: 1, From: 1, To: 2, Term: 5, Index: 9}, 4, true},
		{impl.Msg{Kind: 1, From: 1, To: 2, Term: 5, Index: 9}, 2, false},
		{impl.Msg{Kind: 2, From: 1, To: 2, Term: 5, Ok: true}, 4, true},
		{impl.Msg{Kind: 2, From: 1, To: 2, Term: 5, Ok: true}, 1, false},
		{impl.Msg{Kind: 4, From: 1, To: 2, Term: 5, Ok: true}, 2, true},
		{impl.Msg{Kind: 3, From: 1, To: 2, Term: 5, Commit: 1}, 1, false},
	} {
		c.m.Kind = c.kind
		if got := checkMsg(t, c.m); got != c.want {
			t.Errorf("%v: %s", got, msgText(c.m))
		}
	}
	// A server may send to itself, as far as the message tells.
	for id := 1; id <= mostNodes; id++ {
		if m := (impl.Msg{Kind: 2, From: id, To: id, Term: 1}); !checkMsg(t, m) {
			t.Error(msgText(m))
		}
	}
}

// All short rows of terms around LogTerm and Term.
func TestMsgOkOfEveryRowOfTerms(t *testing.T) {
	count := 0
	eachShortRow([]int{1, 2, 3, 4, 5}, 4, func(row []int) {
		m := impl.Msg{Kind: 3, From: 1, To: 2, Term: 4, Index: 7, LogTerm: 2}
		last, right := 2, true
		for _, term := range row {
			right = right && term >= last && term <= 4
			last = term
			m.Entries = append(m.Entries, noop(term))
		}
		if got := impl.MsgOk(m); got != right {
			t.Errorf("%v: %v", row, got)
		}
		count++
	})
	if count < 700 {
		t.Error(count)
	}
}

func TestRestartTable(t *testing.T) {
	fresh := kept(0, 0, 0, 0, "")
	got := checkRestart(t, 3, fresh)
	if got.Id != 3 || got.Role != 0 || got.Lead != 0 || got.Commit != 0 || got.Elapsed != 0 || got.Wait != 6 || len(got.Votes) != 0 || got.Next != [8]int{} || got.Match != [8]int{} || !sameKeep(got.K, fresh) {
		t.Error(serverText(got))
	}
	got = checkRestart(t, 2, someKept())
	if got.Id != 2 || got.Commit != 3 || got.Wait != 6 || got.K.Term != 4 || got.K.Vote != 1 || !sameKeep(got.K, someKept()) {
		t.Error(serverText(got))
	}
	// One that is no member, or nobody's vote, starts all the same.
	if got = checkRestart(t, 7, someKept()); got.Id != 7 || got.Commit != 3 {
		t.Error(serverText(got))
	}
}

func TestRestartOfRightAndWrongKeeps(t *testing.T) {
	for name, k := range rightKeeps() {
		for id := -2; id <= 10; id++ {
			got := checkRestart(t, id, k)
			if right := id >= 1 && id <= 7; right != impl.ServerOk(got) || right && got.Commit != k.Base || !right && !sameServer(got, impl.Server{}) {
				t.Errorf("%s, %d: %s", name, id, serverText(got))
			}
		}
	}
	for name, k := range wrongKeeps() {
		for _, id := range []int{1, 7, 0, 8, math.MinInt, math.MaxInt} {
			if got := checkRestart(t, id, k); !sameServer(got, impl.Server{}) {
				t.Errorf("%s, %d: %s", name, id, serverText(got))
			}
		}
	}
	for _, id := range []int{0, 8, -1, 257, math.MinInt, math.MaxInt} {
		if got := checkRestart(t, id, someKept()); !sameServer(got, impl.Server{}) {
			t.Errorf("%d: %s", id, serverText(got))
		}
	}
}

func TestTickOfWrongServers(t *testing.T) {
	for name, s := range wrongServers() {
		for _, coin := range []int{0, 3} {
			if got, msgs := checkTick(t, s, coin); !sameServer(got, s) || len(msgs) != 0 {
				t.Errorf("%s: %s, %s", name, serverText(got), msgsText(msgs))
			}
		}
	}
	// What would stand, lead or beat does not, where it is wrong.
	for _, s := range []impl.Server{due(serverOf(1, withGroup(kept(0, 0, 0, 0, ""), groupOf([]int{1})))), withServer(leaderOf(1, someKept(), 5, 4), func(s *impl.Server) { s.Elapsed = 1 })} {
		for _, change := range []func(*impl.Server){func(s *impl.Server) { s.Lead = 8 }, func(s *impl.Server) { s.Votes = []int{2, 1} }, func(s *impl.Server) { s.Commit = 99 }, func(s *impl.Server) { s.K.Vote = -1 }} {
			wrong := withServer(s, change)
			if got, msgs := checkTick(t, wrong, 0); !sameServer(got, wrong) || len(msgs) != 0 {
				t.Errorf("%s, %s", serverText(got), msgsText(msgs))
			}
		}
	}
}

func TestTickOfRightServers(t *testing.T) {
	for _, s := range rightServers() {
		for _, coin := range []int{0, 4, 17} {
			got, _ := checkTick(t, s, coin)
			checkTick(t, got, coin)
		}
		s.Elapsed = max(0, s.Wait-1)
		checkTick(t, s, 2)
		s.Elapsed = 1
		checkTick(t, s, 2)
	}
}

// Ahead of its wait a server does nothing but count; at it and behind it, it begins anew, and stands.
func TestTickAroundItsWait(t *testing.T) {
	for _, role := range []int{0, 1} {
		for wait := range 15 {
			for elapsed := range 20 {
				s := serverOf(2, someKept())
				s.Role, s.Wait, s.Elapsed, s.Lead, s.Votes, s.Commit = role, wait, elapsed, 3, []int{1, 2}, 4
				got, msgs := checkTick(t, s, 0)
				if elapsed+1 < wait {
					want := s
					want.Elapsed = elapsed + 1
					if !sameServer(got, want) || len(msgs) != 0 {
						t.Errorf("wait %d, elapsed %d: %s, %s", wait, elapsed, serverText(got), msgsText(msgs))
					}
					continue
				}
				want := withServer(s, func(x *impl.Server) {
					x.K.Term, x.K.Vote, x.Role, x.Lead, x.Votes, x.Elapsed, x.Wait = 5, 2, 1, 0, []int{2}, 0, 6
				})
				list := []impl.Msg{{Kind: 1, From: 2, To: 1, Term: 5, Index: 6, LogTerm: 3}, {Kind: 1, From: 2, To: 3, Term: 5, Index: 6, LogTerm: 3}}
				if !sameServer(got, want) || !sameMsgs(msgs, list) {
					t.Errorf("wait %d, elapsed %d: %s, %s", wait, elapsed, serverText(got), msgsText(msgs))
				}
			}
		}
	}
	for _, elapsed := range []int{998, 999, 1000} {
		s := serverOf(2, someKept())
		s.Wait, s.Elapsed = 1000, elapsed
		if got, _ := checkTick(t, s, 0); elapsed == 998 && got.Elapsed != 999 || elapsed > 998 && (got.Elapsed != 0 || got.K.Term != 5) {
			t.Error(elapsed, serverText(got))
		}
	}
}

func TestTickWithEachCoin(t *testing.T) {
	for coin, wait := range map[int]int{0: 6, 1: 7, 2: 8, 3: 9, 4: 10, 5: 11, 6: 6, 7: 7, 11: 11, 12: 6, 13: 7, 600: 6, 605: 11, 1000000: 10, -1: 6, -2: 6, -5: 6, -6: 6, -7: 6, -1000000: 6, math.MinInt: 6, math.MinInt + 1: 6, math.MaxInt: 7} {
		for _, s := range []impl.Server{due(serverOf(2, someKept())), due(candidateOf(3, someKept())), due(serverOf(4, withGroup(kept(0, 0, 0, 0, ""), groupOf([]int{4}))))} {
			got, _ := checkTick(t, s, coin)
			if got.Wait != wait || got.K.Term != s.K.Term+1 {
				t.Errorf("coin %d: wait %d, not %d", coin, got.Wait, wait)
			}
		}
		// Who does not stand keeps his wait.
		for _, s := range []impl.Server{serverOf(2, someKept()), due(serverOf(6, someKept())), leaderOf(2, someKept(), 5, 4), withServer(leaderOf(2, someKept(), 5, 4), func(s *impl.Server) { s.Elapsed = 1 })} {
			s.Wait = 8
			if s.Elapsed == 5 {
				s.Elapsed = 7
			}
			if got, _ := checkTick(t, s, coin); got.Wait != 8 || got.K.Term != 4 {
				t.Errorf("coin %d: %s", coin, serverText(got))
			}
		}
	}
}

func TestTickOfOneThatDoesNotStand(t *testing.T) {
	last := kept(lastTerm, 0, 3, 2, "snap", noop(2))
	for name, s := range map[string]impl.Server{
		"no member":             serverOf(4, someKept()),
		"no member, candidate":  candidateOf(4, someKept()),
		"no member any more":    serverOf(1, kept(4, 0, 0, 0, "", regroup(2, 1|2, 2|4), regroup(3, 2|4, 0))),
		"no member, alone":      serverOf(1, withGroup(kept(0, 0, 0, 0, ""), groupOf([]int{2}))),
		"last term":             serverOf(1, last),
		"last term, candidate":  candidateOf(1, last),
		"last term, alone":      serverOf(1, withGroup(last, groupOf([]int{1}))),
		"last term, no member":  serverOf(6, last),
		"last term, full log":   serverOf(1, withGroup(kept(lastTerm, 0, 0, 0, "", noops(1, mostLog)...), groupOf([]int{1}))),
		"last term, last index": serverOf(1, withGroup(kept(lastTerm, 0, lastAt, 1, ""), groupOf([]int{1}))),
		"no member, full log":   serverOf(5, kept(4, 0, 0, 0, "", noops(1, mostLog)...)),
		"no member, last index": serverOf(5, kept(4, 0, lastAt, 1, "")),
	} {
		s.Lead, s.Wait = 2, 9
		for elapsed := range 12 {
			s.Elapsed = elapsed
			want := s
			want.Elapsed = elapsed + 1
			if elapsed >= 8 {
				want.Elapsed = 0
			}
			if got, msgs := checkTick(t, s, 5); !sameServer(got, want) || len(msgs) != 0 {
				t.Errorf("%s, %d: %s, %s", name, elapsed, serverText(got), msgsText(msgs))
			}
		}
	}
	// One term less is enough to stand once.
	s := due(serverOf(1, kept(lastTerm-1, 3, 0, 0, "")))
	got, msgs := checkTick(t, s, 0)
	if got.K.Term != lastTerm || got.K.Vote != 1 || got.Role != 1 || len(msgs) != 2 {
		t.Error(serverText(got), msgsText(msgs))
	}
	again, msgs := checkTick(t, due(got), 0)
	if again.K.Term != lastTerm || again.Elapsed != 0 || again.Role != 1 || len(msgs) != 0 {
		t.Error(serverText(again), msgsText(msgs))
	}
	// Alone it leads in the last term, too.
	s = due(serverOf(1, withGroup(kept(lastTerm-1, 3, 0, 0, ""), groupOf([]int{1}))))
	if got, msgs = checkTick(t, s, 0); got.K.Term != lastTerm || got.Role != 2 || got.Commit != 1 || len(msgs) != 0 {
		t.Error(serverText(got), msgsText(msgs))
	}
}

// A Candidate that got no quorum stands again, in the next term.
func TestTickOfCandidates(t *testing.T) {
	s := withServer(candidateOf(3, someKept()), func(s *impl.Server) { s.Votes = []int{1, 2, 3} })
	got, msgs := checkTick(t, due(s), 1)
	if got.K.Term != 5 || got.K.Vote != 3 || got.Role != 1 || !slices.Equal(got.Votes, []int{3}) || got.Wait != 7 || len(msgs) != 2 || msgs[0].To != 1 || msgs[1].To != 2 {
		t.Error(serverText(got), msgsText(msgs))
	}
	// The votes of the last term do not count in this one.
	s.Votes = []int{1, 2}
	if got, msgs = checkTick(t, due(s), 1); got.Role != 1 || len(msgs) != 2 {
		t.Error(serverText(got), msgsText(msgs))
	}
}

// Each server of each group, joint or not: it stands if it is a member, and leads if it is one alone, in both sides where there are two; else it asks every other member, ascending.
func TestTickOfEachGroup(t *testing.T) {
	leads, asks, idle := 0, 0, 0
	eachGroup(func(now int, next int, g impl.Group) {
		for id := 1; id <= mostNodes; id++ {
			bit := 1 << (id - 1)
			k := impl.Keep{Term: 3, Group: g, Log: []impl.Entry{noop(2)}}
			if (now+next)%2 == 1 {
				k = impl.Keep{Term: 3, Group: groupOf([]int{1}), Log: []impl.Entry{regroup(2, byte(now), byte(next))}}
			}
			got, msgs := quickTick(t, due(serverOf(id, k)), 0)
			alone := now == bit && (next == 0 || next == bit)
			switch {
			case (now|next)&bit == 0:
				idle++
				if got.Role != 0 || got.K.Term != 3 || got.K.Vote != 0 || got.Elapsed != 0 || len(msgs) != 0 {
					t.Fatalf("%v, %d: %s", g, id, serverText(got))
				}
			case alone:
				leads++
				if got.Role != 2 || got.K.Term != 4 || got.K.Vote != id || got.Lead != id || got.Commit != lastOf(got.K) || len(msgs) != 0 {
					t.Fatalf("%v, %d: %s", g, id, serverText(got))
				}
			default:
				asks++
				to := []int{}
				for _, m := range msgs {
					to = append(to, m.To)
					if m.Kind != 1 || m.From != id || m.Term != 4 || m.Index != 1 || m.LogTerm != 2 {
						t.Fatalf("%v, %d: %s", g, id, msgText(m))
					}
				}
				if got.Role != 1 || got.K.Term != 4 || got.K.Vote != id || !slices.Equal(to, idsOf((now|next)&^bit)) || len(got.K.Log) != 1 {
					t.Fatalf("%v, %d: %s, %v", g, id, serverText(got), to)
				}
			}
		}
	})
	if leads != 14 || asks < 50000 || idle < 20000 {
		t.Error(leads, asks, idle)
	}
}

// standsAlone is one tick ahead of leading its group of one.
func standsAlone(id int, k impl.Keep) impl.Server {
	return due(serverOf(id, withGroup(k, groupOf([]int{id}))))
}

func TestTickOfOneAlone(t *testing.T) {
	s := standsAlone(4, kept(0, 0, 0, 0, ""))
	s.Lead, s.Votes = 2, []int{1}
	got, msgs := checkTick(t, s, 3)
	want := impl.Server{Id: 4, K: impl.Keep{Term: 1, Vote: 4, Group: groupOf([]int{4}), Log: []impl.Entry{noop(1)}}, Role: 2, Lead: 4, Commit: 1, Next: [8]int{0, 1, 1, 1, 1, 1, 1, 1}, Match: [8]int{0, 0, 0, 0, 1, 0, 0, 0}, Wait: 9}
	if !sameServer(got, want) || len(msgs) != 0 {
		t.Error(serverText(got), msgsText(msgs))
	}
	// Earlier entries are agreed with the one of its own term, behind them.
	s = standsAlone(1, kept(6, 2, 3, 2, "snap", noop(2), asked(3, "five"), asked(6, "six")))
	got, msgs = checkTick(t, s, 0)
	want = impl.Server{Id: 1, K: withGroup(kept(7, 1, 3, 2, "snap", noop(2), asked(3, "five"), asked(6, "six"), noop(7)), groupOf([]int{1})), Role: 2, Lead: 1, Commit: 7, Next: [8]int{0, 7, 7, 7, 7, 7, 7, 7}, Match: [8]int{0, 7, 0, 0, 0, 0, 0, 0}, Wait: 6}
	if !sameServer(got, want) || len(msgs) != 0 {
		t.Error(serverText(got), msgsText(msgs))
	}
	// Its group of one may stand in the log, behind one of many.
	s = due(serverOf(3, kept(6, 2, 0, 0, "", regroup(2, 7, 4), asked(3, "two"), regroup(4, 4, 0))))
	got, msgs = checkTick(t, s, 0)
	if got.Role != 2 || got.Commit != 4 || len(got.K.Log) != 4 || got.K.Log[3].Kind != 1 || len(msgs) != 0 {
		t.Error(serverText(got), msgsText(msgs))
	}
	// It beats for nobody.
	for range 10 {
		if got, msgs = checkTick(t, got, 0); got.Role != 2 || len(msgs) != 0 || got.K.Term != 7 || got.Commit != 4 {
			t.Fatal(serverText(got), msgsText(msgs))
		}
	}
}

// From the start on, one that is alone leads behind six ticks.
func TestOneAloneFromTheStart(t *testing.T) {
	for id := 1; id <= mostNodes; id++ {
		s := impl.Restart(id, impl.KeepNew(groupOf([]int{id})))
		for tick := 1; tick <= 30; tick++ {
			was := s
			var msgs []impl.Msg
			s, msgs = checkTick(t, s, tick)
			if len(msgs) != 0 || tick < 6 && (s.Role != 0 || s.K.Term != 0) || tick >= 6 && (s.Role != 2 || s.Commit != 1 || s.K.Term != 1 || lastOf(s.K) != 1) {
				t.Fatalf("%d: %s, then %s", tick, serverText(was), serverText(s))
			}
		}
	}
}

// A server that is alone and has no room for its first entry is answered as it was, its ticks too.
func TestTickOfOneAloneWithoutRoom(t *testing.T) {
	for name, c := range map[string]struct {
		k     impl.Keep
		leads bool
	}{
		"full log":                        {kept(4, 2, 0, 0, "", noops(2, mostLog)...), false},
		"full log, based":                 {kept(4, 2, 30, 1, "snap", risingLog(2, 4, mostLog)...), false},
		"one less":                        {kept(4, 2, 0, 0, "", noops(2, mostLog-1)...), true},
		"one less, based":                 {kept(4, 2, 30, 1, "snap", noops(2, mostLog-1)...), true},
		"last index, snapshot":            {kept(4, 2, lastAt, 1, "snap"), false},
		"last index":                      {kept(4, 2, lastAt-3, 1, "snap", noops(2, 3)...), false},
		"one ahead of the last":           {kept(4, 2, lastAt-3, 1, "snap", noops(2, 2)...), true},
		"one ahead of the last, snapshot": {kept(4, 2, lastAt-1, 1, "snap"), true},
		"both":                            {kept(4, 2, lastAt-mostLog, 1, "snap", noops(2, mostLog)...), false},
	} {
		// A group in the log would be another one.
		for i, e := range c.k.Log {
			if e.Kind == 3 {
				c.k.Log[i] = asked(e.Term, "no group")
			}
		}
		s := standsAlone(5, c.k)
		s.Lead, s.Votes = 1, []int{3}
		got, msgs := checkTick(t, s, 4)
		if !c.leads {
			if !sameServer(got, s) || len(msgs) != 0 {
				t.Errorf("%s: %s, %s", name, serverText(got), msgsText(msgs))
			}
			// Ahead of its wait it gets none, and counts.
			s.Elapsed = 2
			if got, _ = checkTick(t, s, 4); got.Elapsed != 3 {
				t.Errorf("%s: %s", name, serverText(got))
			}
			continue
		}
		if got.Role != 2 || got.Commit != lastOf(c.k)+1 || lastOf(got.K) != lastOf(c.k)+1 || got.K.Term != 5 || len(msgs) != 0 {
			t.Errorf("%s: %s, %s", name, serverText(got), msgsText(msgs))
		}
	}
}

// Who is not alone stands without an entry, so it is no matter that there is no room.
func TestTickOfOthersWithoutRoom(t *testing.T) {
	for name, k := range map[string]impl.Keep{
		"full log":    kept(4, 2, 0, 0, "", noops(2, mostLog)...),
		"last index":  kept(4, 2, lastAt, 2, "snap"),
		"last index ": kept(4, 2, lastAt-3, 1, "snap", noops(2, 3)...),
	} {
		got, msgs := checkTick(t, due(serverOf(2, k)), 0)
		if got.Role != 1 || got.K.Term != 5 || len(msgs) != 2 || msgs[0].Index != lastOf(k) || msgs[0].LogTerm != 2 {
			t.Errorf("%s: %s, %s", name, serverText(got), msgsText(msgs))
		}
	}
}

// Alone in both sides of a joint group it settles it as soon as it leads; alone in one of them it leads by nobody's leave.
func TestTickOfOneInAJointGroup(t *testing.T) {
	both := groupOf([]int{2}, 2)
	got, msgs := checkTick(t, due(serverOf(2, withGroup(kept(3, 0, 0, 0, ""), both))), 0)
	want := impl.Server{Id: 2, K: withGroup(kept(4, 2, 0, 0, "", noop(4), regroup(4, 2, 0)), both), Role: 2, Lead: 2, Commit: 2, Next: [8]int{0, 1, 1, 1, 1, 1, 1, 1}, Match: [8]int{0, 0, 2, 0, 0, 0, 0, 0}, Wait: 6}
	if !sameServer(got, want) || len(msgs) != 0 {
		t.Error(serverText(got), msgsText(msgs))
	}
	// The same, told by its log.
	got, msgs = checkTick(t, due(serverOf(2, kept(3, 0, 0, 0, "", regroup(1, 2, 2), noop(3)))), 0)
	want.K = kept(4, 2, 0, 0, "", regroup(1, 2, 2), noop(3), noop(4), regroup(4, 2, 0))
	want.Commit, want.Next, want.Match = 4, [8]int{0, 3, 3, 3, 3, 3, 3, 3}, [8]int{0, 0, 4, 0, 0, 0, 0, 0}
	if !sameServer(got, want) || len(msgs) != 0 {
		t.Error(serverText(got), msgsText(msgs))
	}
	for name, g := range map[string]impl.Group{
		"alone now":         groupOf([]int{2}, 1, 2),
		"alone next":        groupOf([]int{1, 2}, 2),
		"alone, then gone":  groupOf([]int{2}, 1),
		"comes to be alone": groupOf([]int{1}, 2),
	} {
		for _, k := range []impl.Keep{withGroup(kept(3, 0, 0, 0, "", noop(3)), g), kept(3, 0, 0, 0, "", impl.Entry{Term: 3, Kind: 3, Data: groupBytesWanted(g)})} {
			got, msgs := checkTick(t, due(serverOf(2, k)), 0)
			if got.Role != 1 || got.Commit != 0 || len(got.K.Log) != 1 || len(msgs) != 1 || msgs[0].Kind != 1 || msgs[0].To != 1 {
				t.Errorf("%s: %s, %s", name, serverText(got), msgsText(msgs))
			}
		}
	}
}

// The entry that settles the group is had if there is room behind the first one.
func TestTickSettlesIfThereIsRoom(t *testing.T) {
	for name, c := range map[string]struct {
		k    impl.Keep
		more int
	}{
		"none to be had": {kept(3, 0, 0, 0, "", noops(1, mostLog)...), 0},
		"one":            {kept(3, 0, 0, 0, "", noops(1, mostLog-1)...), 1},
		"two":            {kept(3, 0, 0, 0, "", noops(1, mostLog-2)...), 2},
		"three":          {kept(3, 0, 0, 0, "", noops(1, mostLog-3)...), 2},
		"no index":       {kept(3, 0, lastAt, 1, ""), 0},
		"one index":      {kept(3, 0, lastAt-1, 1, ""), 1},
		"two indexes":    {kept(3, 0, lastAt-2, 1, ""), 2},
	} {
		s := due(serverOf(6, withGroup(c.k, groupOf([]int{6}, 6))))
		got, msgs := checkTick(t, s, 0)
		g := groupWanted(got.K)
		if len(msgs) != 0 || lastOf(got.K) != lastOf(c.k)+c.more || c.more == 0 && !sameServer(got, s) {
			t.Errorf("%s: %s", name, serverText(got))
		}
		if c.more > 0 && (got.Role != 2 || got.Commit != lastOf(got.K) || got.Match[6] != lastOf(got.K) || (len(g.Next) == 0) != (c.more == 2)) {
			t.Errorf("%s: %s", name, serverText(got))
		}
	}
}

// A Leader counts to HeartTicks, and sends then.
func TestTickOfALeader(t *testing.T) {
	k := kept(4, 1, 3, 2, "snap", noop(2), asked(3, "five"), regroup(4, 7, 12))
	s := leaderOf(1, k, 5, 4)
	s.Next = [8]int{0, 7, 7, 6, 4, 1, 2, 3}
	got, msgs := checkTick(t, s, 0)
	want := s
	want.Elapsed = 1
	if !sameServer(got, want) || len(msgs) != 0 {
		t.Error(serverText(got), msgsText(msgs))
	}
	got, msgs = checkTick(t, got, 0)
	list := []impl.Msg{
		{Kind: 3, From: 1, To: 2, Term: 4, Index: 6, LogTerm: 4, Commit: 5},
		{Kind: 3, From: 1, To: 3, Term: 4, Index: 5, LogTerm: 3, Entries: []impl.Entry{regroup(4, 7, 12)}, Commit: 5},
		{Kind: 3, From: 1, To: 4, Term: 4, Index: 3, LogTerm: 2, Entries: []impl.Entry{noop(2), asked(3, "five"), regroup(4, 7, 12)}, Commit: 5},
	}
	if !sameServer(got, s) || !sameMsgs(msgs, list) {
		t.Error(serverText(got), msgsText(msgs))
	}
	// To one that is at the snapshot or ahead of it that goes.
	for next := 1; next <= 3; next++ {
		s.Next[3], s.Elapsed = next, 1
		got, msgs = checkTick(t, s, 0)
		list[1] = impl.Msg{Kind: 5, From: 1, To: 3, Term: 4, Index: 3, LogTerm: 2, Data: []byte("snap"), Group: groupOf([]int{1, 2, 3})}
		if got.Elapsed != 0 || !sameMsgs(msgs, list) {
			t.Error(next, serverText(got), msgsText(msgs))
		}
	}
}

// Two messages of a snapshot have each its own bytes and its own group; the group is the snapshot's, not the log's.
func TestTickSendsSnapshots(t *testing.T) {
	k := withGroup(kept(9, 1, 500, 7, longText(mostData), regroup(8, 127, 0), noop(9)), groupOf([]int{1, 2}, 3, 4))
	s := withServer(leaderOf(5, k, 501, 0), func(s *impl.Server) { s.Next, s.Elapsed = [8]int{0, 1, 500, 501, 502, 503, 250, 499}, 1 })
	_, msgs := checkTick(t, s, 0)
	kinds := []int{}
	for _, m := range msgs {
		kinds = append(kinds, m.To*10+m.Kind)
		if m.Kind == 5 && (m.Index != 500 || m.LogTerm != 7 || len(m.Data) != mostData || !sameGroup(m.Group, groupOf([]int{1, 2}, 3, 4)) || m.Commit != 0) {
			t.Error(msgText(m))
		}
	}
	if !slices.Equal(kinds, []int{15, 25, 33, 43, 65, 75}) {
		t.Error(kinds)
	}
	// A snapshot without bytes is one all the same.
	s.K.Snap = nil
	if _, msgs = checkTick(t, s, 0); msgs[0].Kind != 5 || len(msgs[0].Data) != 0 {
		t.Error(msgsText(msgs))
	}
}

// Every Next of a long log: at most eight entries go, from that one on.
func TestTickSendsAtMostEight(t *testing.T) {
	for _, base := range []int{0, 30} {
		k := kept(60, 1, base, min(base, 1), strings.Repeat("s", min(base, 1)), risingLog(1, 60, mostLog)...)
		k = withGroup(k, groupOf(upTo(7)))
		for i, e := range k.Log {
			if e.Kind == 3 {
				k.Log[i] = regroup(e.Term, 127, 0)
			}
		}
		for next := 1; next <= lastOf(k)+1; next++ {
			s := withServer(leaderOf(7, k, base, 0), func(s *impl.Server) { s.Elapsed = 1 })
			for id := 1; id <= 6; id++ {
				s.Next[id] = (next+id*19)%(lastOf(k)+1) + 1
			}
			s.Next[1] = next
			_, msgs := quickTick(t, s, 0)
			m := msgs[0]
			if next <= base {
				if m.Kind != 5 || m.Index != base || len(m.Entries) != 0 {
					t.Fatal(next, msgText(m))
				}
				continue
			}
			if m.Kind != 3 || m.Index != next-1 || len(m.Entries) != min(8, lastOf(k)+1-next) {
				t.Fatal(next, msgText(m))
			}
			for i, e := range m.Entries {
				if !sameEntry(e, k.Log[next+i-base-1]) {
					t.Fatal(next, i, msgText(m))
				}
			}
			if next%17 == 0 {
				checkTick(t, s, 0)
			}
		}
	}
}

// A Leader that is no member sends to all that are, and leads on: a tick does not agree on anything.
func TestTickOfALeaderThatIsNoMember(t *testing.T) {
	for _, k := range []impl.Keep{someKept(), kept(4, 6, 0, 0, "", regroup(2, 64|7, 7), regroup(4, 7, 0))} {
		s := withServer(leaderOf(6, k, lastOf(k), lastOf(k)), func(s *impl.Server) { s.Elapsed = 1 })
		got, msgs := checkTick(t, s, 0)
		if got.Role != 2 || got.Lead != 6 || len(msgs) != 3 || msgs[0].To != 1 || msgs[1].To != 2 || msgs[2].To != 3 {
			t.Error(serverText(got), msgsText(msgs))
		}
	}
	// Nor does it where others have more than it had agreed, or where its joint group could be settled.
	for _, k := range []impl.Keep{kept(4, 1, 0, 0, "", noop(4), noop(4)), kept(4, 1, 0, 0, "", regroup(4, 7, 3), noop(4))} {
		for elapsed := range 2 {
			s := withServer(leaderOf(1, k, 0, 2), func(s *impl.Server) { s.Elapsed = elapsed })
			got, msgs := checkTick(t, s, 0)
			if got.Commit != 0 || len(got.K.Log) != 2 || len(msgs) != 2*elapsed {
				t.Error(serverText(got), msgsText(msgs))
			}
		}
	}
}

// A Leader's log may be full, and its index the last: what it sends is no entry more.
func TestTickOfALeaderWithoutRoom(t *testing.T) {
	for _, k := range []impl.Keep{kept(4, 1, 0, 0, "", noops(2, mostLog)...), kept(4, 1, lastAt, 2, "snap"), kept(lastTerm, 1, lastAt-4, 2, "snap", noops(2, 4)...)} {
		s := withServer(leaderOf(1, k, lastOf(k), 0), func(s *impl.Server) { s.Elapsed, s.Next[2] = 1, lastOf(k) })
		got, msgs := checkTick(t, s, 0)
		if got.Elapsed != 0 || len(msgs) != 2 || lastOf(got.K) != lastOf(k) || msgs[1].Index != lastOf(k) {
			t.Error(serverText(got), msgsText(msgs))
		}
	}
}

// A Leader that came in behind HeartTicks counts on; where it cannot, it begins anew, so that it stays right.
func TestTickOfALeaderBehindItsHeart(t *testing.T) {
	for elapsed := range mostTicks + 1 {
		s := withServer(leaderOf(1, someKept(), 5, 4), func(s *impl.Server) { s.Elapsed = elapsed })
		got, msgs := quickTick(t, s, 0)
		beats := elapsed == 1 || elapsed == mostTicks
		if beats && (got.Elapsed != 0 || len(msgs) != 2) || !beats && (got.Elapsed != elapsed+1 || len(msgs) != 0) {
			t.Error(elapsed, serverText(got), msgsText(msgs))
		}
	}
}

// Members ask for votes by the last entry that there is: in the log, in the snapshot, or none.
func TestTickAsksForVotes(t *testing.T) {
	for name, c := range map[string]struct {
		k              impl.Keep
		index, logTerm int
	}{
		"nothing":           {kept(0, 0, 0, 0, ""), 0, 0},
		"a term":            {kept(8, 0, 0, 0, ""), 0, 0},
		"an entry":          {kept(8, 0, 0, 0, "", noop(6)), 1, 6},
		"a snapshot":        {kept(8, 0, 40, 5, "snap"), 40, 5},
		"a snapshot, more":  {kept(8, 0, 40, 5, "snap", noop(5), noop(8)), 42, 8},
		"the last index":    {kept(8, 0, lastAt, 5, "snap"), lastAt, 5},
		"the last index, 2": {kept(8, 0, lastAt-1, 5, "snap", noop(6)), lastAt, 6},
	} {
		got, msgs := checkTick(t, due(serverOf(2, c.k)), 0)
		if got.Role != 1 || len(msgs) != 2 {
			t.Fatalf("%s: %s, %s", name, serverText(got), msgsText(msgs))
		}
		for i, to := range []int{1, 3} {
			if want := (impl.Msg{Kind: 1, From: 2, To: to, Term: c.k.Term + 1, Index: c.index, LogTerm: c.logTerm}); !sameMsg(msgs[i], want) || !impl.MsgOk(msgs[i]) {
				t.Errorf("%s: %s", name, msgText(msgs[i]))
			}
		}
	}
}

// The last index goes from three ahead of the last one to two behind it, at each role: up to it a server is right, and so is all that it sends; behind it, it is wrong, and does nothing.
func TestTickAtTheLastIndex(t *testing.T) {
	for count := range 4 {
		for last := lastAt - 3; last <= lastAt+2; last++ {
			k := kept(4, 1, last-count, 2, "snap", noops(3, count)...)
			leader := withServer(leaderOf(1, k, last, last), func(s *impl.Server) { s.Elapsed, s.Next[2], s.Next[3] = 1, last, last-count })
			alone := withGroup(k, groupOf([]int{1}))
			for name, s := range map[string]impl.Server{
				"a follower":  due(serverOf(2, k)),
				"a candidate": due(candidateOf(3, k)),
				"a leader":    leader,
				"alone":       due(serverOf(1, alone)),
				"joint":       due(serverOf(1, withGroup(k, groupOf([]int{1}, 1)))),
				"restarted":   due(impl.Restart(2, k)),
			} {
				got, msgs := checkTick(t, s, 0)
				if right := checkServer(t, s); right != (last <= lastAt) {
					t.Errorf("%s, %d entries up to %d: %v", name, count, last, right)
				}
				if last > lastAt && (!sameServer(got, s) || len(msgs) != 0) || last <= lastAt && lastOf(got.K) > lastAt {
					t.Errorf("%s, %d entries up to %d: %s, %s", name, count, last, serverText(got), msgsText(msgs))
				}
				if last <= lastAt && s.Id > 1 && (len(msgs) != 2 || msgs[0].Index != last) || last < lastAt && s.Id == 1 && got.Role != 2 {
					t.Errorf("%s, %d entries up to %d: %s, %s", name, count, last, serverText(got), msgsText(msgs))
				}
			}
		}
	}
}

// A Leader of no term comes of no tick; where it is handed in it counts, and there is no message that it could send.
func TestTickOfALeaderOfNoTerm(t *testing.T) {
	s := leaderOf(1, kept(0, 0, 0, 0, ""), 0, 0)
	for tick := 1; tick <= 5; tick++ {
		got, msgs := checkTick(t, s, 0)
		if got.Elapsed != tick%2 || got.Role != 2 || got.K.Term != 0 || len(msgs) != 0 {
			t.Error(tick, serverText(got), msgsText(msgs))
		}
		s = got
	}
}

func someRole(chance *rand.Rand, s impl.Server) impl.Server {
	s.Role = chance.Intn(3)
	s.Lead = chance.Intn(mostNodes + 1)
	s.Votes = idsOf(chance.Intn(allRows))
	s.Commit = s.K.Base + chance.Intn(len(s.K.Log)+1)
	if s.Role != 2 {
		s.Wait = pickedOf(chance, 0, 1, 6, 7, 11, 1000)
		s.Elapsed = min(mostTicks, max(0, s.Wait+pickedOf(chance, -6, -2, -1, -1, -1, 0, 5)))
		return s
	}
	for id := 1; id <= mostNodes; id++ {
		s.Next[id] = 1 + chance.Intn(lastOf(s.K)+1)
		if chance.Intn(3) > 0 {
			s.Next[id] = s.K.Base + 1 + chance.Intn(len(s.K.Log)+1)
		}
		s.Match[id] = chance.Intn(lastOf(s.K) + 1)
	}
	s.Wait = chance.Intn(12)
	s.Elapsed = pickedOf(chance, 0, 1, 1, 1, 2, 7, 999, 1000)
	return s
}

// someServer is a right one, often in a small group.
func someServer(chance *rand.Rand) impl.Server {
	g := groupOfBits(1+chance.Intn(allRows-1), chance.Intn(allRows))
	id := 1 + chance.Intn(mostNodes)
	switch chance.Intn(4) {
	case 0:
		g = groupOf([]int{id})
	case 1:
		g = groupOf([]int{id}, id)
	}
	k := impl.Keep{Term: chance.Intn(6), Vote: chance.Intn(8), Group: g}
	if k.Term > 0 && chance.Intn(2) == 0 {
		k.Base, k.BaseTerm, k.Snap = pickedOf(chance, 1, 5, 90, lastAt-3, lastAt), 1+chance.Intn(k.Term), []byte(longText(chance.Intn(40)))
	}
	k = withMore(chance, k, pickedOf(chance, 0, 3, 20, mostLog))
	k.Log = k.Log[:min(len(k.Log), lastAt-k.Base)]
	for i, e := range k.Log {
		if e.Kind == 3 && chance.Intn(2) == 0 {
			k.Log[i] = impl.Entry{Term: e.Term, Kind: 3, Data: groupBytesWanted(g)}
		}
	}
	if chance.Intn(12) == 0 {
		k.Term = lastTerm - chance.Intn(2)
	}
	return someRole(chance, impl.Server{Id: id, K: k})
}

func TestTickOfAnyServers(t *testing.T) {
	seen := map[string]int{}
	for seed := range 1500 {
		chance := rand.New(rand.NewSource(int64(seed)))
		s := someServer(chance)
		if !checkServer(t, s) {
			t.Fatal("wrong:", serverText(s))
		}
		coin := chance.Intn(20) - 4
		got, msgs := checkTick(t, s, coin)
		seen[fmt.Sprint(s.Role, " to ", got.Role)]++
		for _, m := range msgs {
			seen[fmt.Sprint("kind ", m.Kind)]++
		}
		if sameServer(s, got) {
			seen["as it was"]++
		}
		if lastOf(got.K) > lastOf(s.K)+1 {
			seen["settled"]++
		}
	}
	for _, what := range []string{"0 to 0", "0 to 1", "0 to 2", "1 to 1", "1 to 2", "2 to 2", "kind 1", "kind 3", "kind 5", "as it was", "settled"} {
		if seen[what] < 8 {
			t.Error("hardly ever seen:", what, seen)
		}
	}
}

// One field of a right server is changed at random: ServerOk tells, and a tick of what is wrong does nothing.
func TestTickOfAnyWrongServers(t *testing.T) {
	wrong := 0
	for seed := range 600 {
		chance := rand.New(rand.NewSource(int64(seed)))
		s := someServer(chance)
		n := pickedOf(chance, -1, 0, 1, 2, 3, 7, 8, 1001, lastOf(s.K), lastOf(s.K)+1, lastOf(s.K)+2, lastAt+1)
		id := 1 + chance.Intn(mostNodes)
		*pickedOf(chance, &s.Id, &s.Role, &s.Lead, &s.Commit, &s.Elapsed, &s.Wait, &s.Next[id], &s.Match[id], &s.K.Term, &s.K.Vote, &s.K.Base, &s.K.BaseTerm) = n
		if !checkServer(t, s) {
			wrong++
		}
		checkTick(t, s, chance.Intn(9))
	}
	if wrong < 200 || wrong > 550 {
		t.Error(wrong)
	}
}

func TestMsgOkOfAnyMessages(t *testing.T) {
	right := 0
	for seed := range 3000 {
		chance := rand.New(rand.NewSource(int64(seed)))
		m := pickedOf(chance, fullMsgs()...)
		for range chance.Intn(3) {
			n := pickedOf(chance, -1, 0, 1, 3, 4, 5, 6, 7, 8, lastAt, lastAt+1)
			*pickedOf(chance, &m.Kind, &m.From, &m.To, &m.Term, &m.Index, &m.LogTerm, &m.Commit) = n
		}
		switch chance.Intn(6) {
		case 0:
			m.Ok = !m.Ok
		case 1:
			m.Data = []byte(longText(chance.Intn(3)))
		case 2:
			m.Group = groupOfBits(chance.Intn(3), chance.Intn(3))
		case 3:
			m.Entries = withMore(chance, impl.Keep{Term: 6}, 10).Log
		}
		if checkMsg(t, m) {
			right++
		}
	}
	if right < 500 || right > 2500 {
		t.Error(right)
	}
}

// From the start on, by any coins: what ticks is right, and its term rises with its own vote alone.
func TestServersTickOnAndOn(t *testing.T) {
	for seed := range 60 {
		chance := rand.New(rand.NewSource(int64(seed)))
		k := impl.KeepNew(groupOfBits(1+chance.Intn(allRows-1), pickedOf(chance, 0, chance.Intn(allRows))))
		s := impl.Restart(1+chance.Intn(mostNodes), k)
		member := slices.Contains(membersWanted(k.Group), s.Id)
		quiet, stood := 0, 0
		for range 120 {
			was := s
			s, _ = quickTick(t, s, chance.Intn(100)-20)
			quiet++
			if s.K.Term > was.K.Term {
				stood++
				if quiet < 6 || quiet > 11 || s.K.Vote != s.Id {
					t.Fatal(quiet, serverText(s))
				}
				quiet = 0
			}
		}
		if s.K.Term != stood || member && stood == 0 || !member && stood > 0 || s.Role != 2 && member && stood < 10 {
			t.Fatal(stood, serverText(s))
		}
	}
}

// What was answered stays, whatever happens to what was handed in, and to another answer.
func TestServersStayApart(t *testing.T) {
	data := []byte("data")
	row := []int{1, 2, 3}
	shared := impl.Keep{Term: 3, Vote: 1, Base: 2, BaseTerm: 1, Group: impl.Group{Now: row, Next: row}, Snap: data, Log: []impl.Entry{{Term: 2, Kind: 2, Data: data}, {Term: 3, Kind: 2, Data: data[:2]}}}
	list := map[string]impl.Server{
		"one memory":             withLists(serverOf(1, shared), row),
		"one memory, it stands":  withLists(due(serverOf(2, shared)), row[:2]),
		"one memory, a leader":   withLists(leaderOf(3, shared, 3, 2), row),
		"one memory, it beats":   withLists(leaderOf(3, shared, 3, 2), row),
		"one memory, wrong":      withLists(impl.Server{Id: 8, K: shared}, row),
		"it stands":              due(serverOf(2, someKept())),
		"it leads":               standsAlone(2, someKept()),
		"it leads, joint":        due(serverOf(2, withGroup(someKept(), groupOf([]int{2}, 2)))),
		"no room":                standsAlone(2, kept(3, 0, 0, 0, "", noops(1, mostLog)...)),
		"many entries, it beats": leaderOf(1, withGroup(kept(9, 1, 2, 1, "snap", risingLog(1, 9, 30)...), groupOf(upTo(7))), 3, 2),
	}
	for name, s := range list {
		if strings.Contains(name, "it beats") {
			s.Elapsed, s.Next = 1, [8]int{0, 3, 1, 2, 3, 4, 4, 3}
		}
		checkTick(t, s, 0)
		given := cloneServer(s)
		one, first := impl.Tick(s, 3)
		two, second := impl.Tick(s, 3)
		was, wasSent := cloneServer(one), cloneMsgs(first)
		over := &memory{}
		over.addServer(two)
		over.addMsgs(second...)
		over.scribble()
		if !sameServer(one, was) || !sameMsgs(first, wasSent) || !sameServer(s, given) {
			t.Error("two answers share memory, or share it with what was handed in:", name)
		}
		// What is sent stays, too, where the server that sent it ticks on.
		on := one
		for range 14 {
			on, _ = impl.Tick(on, 0)
		}
		if !sameServer(one, was) || !sameMsgs(first, wasSent) {
			t.Error("a later tick changed what was answered:", name)
		}
	}
	for name, k := range map[string]impl.Keep{"some": someKept(), "one memory": shared} {
		checkRestart(t, 3, k)
		s := impl.Restart(3, k)
		was := cloneServer(s)
		over := &memory{}
		over.addServer(impl.Restart(3, k))
		over.scribble()
		if !sameServer(s, was) || !sameKeep(s.K, k) {
			t.Error("two answers share memory, or share it with what was handed in:", name)
		}
	}
}

func withLists(s impl.Server, votes []int) impl.Server {
	s.Votes = votes
	return s
}

// A message's lists may share memory; MsgOk reads them all the same.
func TestMsgOkOfOneMemory(t *testing.T) {
	row, data := []int{1, 2, 3}, []byte{7, 0}
	m := impl.Msg{Kind: 5, From: 1, To: 2, Term: 5, Index: 1, LogTerm: 1, Data: data, Group: impl.Group{Now: row, Next: row}}
	if !impl.MsgOk(m) || !slices.Equal(row, []int{1, 2, 3}) {
		t.Error(msgText(m))
	}
	m = impl.Msg{Kind: 3, From: 1, To: 2, Term: 5, Entries: []impl.Entry{{Term: 1, Kind: 2, Data: data}, {Term: 1, Kind: 3, Data: data}}}
	if !impl.MsgOk(m) || !slices.Equal(data, []byte{7, 0}) {
		t.Error(msgText(m))
	}
}
