package tests

import (
	"fmt"
	"math"
	"math/rand"
	"slices"
	"strings"
	"testing"

	"loop.example/g00113/impl"
)

// backWanted is an answer to whom m is from, in the term of s.
func backWanted(s impl.Server, m impl.Msg, kind int, ok bool, index int) []impl.Msg {
	return []impl.Msg{{Kind: kind, From: s.Id, To: m.From, Term: s.K.Term, Ok: ok, Index: index}}
}

func laterWanted(s impl.Server, term int) impl.Server {
	s.K.Term, s.K.Vote = term, 0
	s.Role, s.Lead, s.Votes, s.Next, s.Match = 0, 0, nil, [8]int{}, [8]int{}
	return s
}

func followsWanted(s impl.Server, lead int) impl.Server {
	s.Role, s.Lead, s.Votes, s.Elapsed = 0, lead, nil, 0
	return s
}

func onVoteWanted(s impl.Server, m impl.Msg) (impl.Server, []impl.Msg, bool) {
	last := lastOf(s.K)
	term, _ := termWanted(s.K, last)
	older := m.LogTerm < term || m.LogTerm == term && m.Index < last
	if older || s.Role != 0 || s.K.Vote != 0 && s.K.Vote != m.From {
		return s, backWanted(s, m, 2, false, 0), true
	}
	s.K.Vote, s.Elapsed = m.From, 0
	return s, backWanted(s, m, 2, true, 0), true
}

func onVotedWanted(s impl.Server, m impl.Msg) (impl.Server, []impl.Msg, bool) {
	if s.Role != 1 || !m.Ok {
		return s, nil, true
	}
	votes := []int{}
	for id := 1; id <= mostNodes; id++ {
		if id == m.From || slices.Contains(s.Votes, id) {
			votes = append(votes, id)
		}
	}
	s.Votes = votes
	if !quorumWanted(groupWanted(s.K), votes) {
		return s, nil, true
	}
	if !hasRoomWanted(s.K) {
		return s, nil, false
	}
	s = leadWanted(s)
	return s, allSentWanted(s), true
}

// onAppendWanted goes index by index. Where the message begins within the snapshot, it begins at its end.
func onAppendWanted(s impl.Server, m impl.Msg) (impl.Server, []impl.Msg, bool) {
	if s.Role == 2 {
		return s, nil, true
	}
	s = followsWanted(s, m.From)
	ahead, aheadTerm, last := m.Index, m.LogTerm, m.Index+len(m.Entries)
	if ahead < s.K.Base {
		ahead, aheadTerm, last = s.K.Base, s.K.BaseTerm, max(last, s.K.Base)
	}
	if term, there := termWanted(s.K, ahead); !there || term != aheadTerm {
		index := ahead - 1
		if lastOf(s.K) < ahead {
			index = lastOf(s.K)
		}
		return s, backWanted(s, m, 4, false, max(0, index)), true
	}
	for index := ahead + 1; index <= last; index++ {
		told := m.Entries[index-m.Index-1]
		if e, there := entryAt(s.K, index); there && e.Term == told.Term {
			continue
		}
		if index <= s.Commit {
			return s, nil, false
		}
		s.K.Log = append(entriesOf(s.K, func(at int) bool { return at < index }), m.Entries[index-m.Index-1:]...)
		if !keepRight(s.K) {
			return s, nil, false
		}
		break
	}
	s.Commit = max(s.Commit, min(m.Commit, last, lastOf(s.K)))
	return s, backWanted(s, m, 4, true, last), true
}

func onAppendedWanted(s impl.Server, m impl.Msg) (impl.Server, []impl.Msg, bool) {
	if s.Role != 2 || m.From == s.Id {
		return s, nil, true
	}
	if !m.Ok {
		next := s.Next[m.From] - 1
		if m.Index+1 < next {
			next = m.Index + 1
		}
		s.Next[m.From] = max(1, next)
		return s, []impl.Msg{sentWanted(s, m.From)}, true
	}
	for s.Match[m.From] < m.Index && s.Match[m.From] < lastOf(s.K) {
		s.Match[m.From]++
	}
	s.Next[m.From] = s.Match[m.From] + 1
	s = agreeWanted(s)
	if s.Role == 2 && s.Next[m.From] <= lastOf(s.K) {
		return s, []impl.Msg{sentWanted(s, m.From)}, true
	}
	return s, nil, true
}

func onSnapWanted(s impl.Server, m impl.Msg) (impl.Server, []impl.Msg, bool) {
	if s.Role == 2 || m.Index == 0 {
		return s, nil, true
	}
	s = followsWanted(s, m.From)
	if m.Index <= s.Commit {
		return s, backWanted(s, m, 4, true, s.Commit), true
	}
	e, there := entryAt(s.K, m.Index)
	stay := entriesOf(s.K, func(at int) bool { return there && e.Term == m.LogTerm && at > m.Index })
	s.K.Base, s.K.BaseTerm, s.K.Group, s.K.Snap, s.K.Log = m.Index, m.LogTerm, m.Group, m.Data, stay
	if !keepRight(s.K) {
		return s, nil, false
	}
	s.Commit = m.Index
	return s, backWanted(s, m, 4, true, m.Index), true
}

func handleWanted(s impl.Server, m impl.Msg) (impl.Server, []impl.Msg) {
	if !serverRight(s) || !msgRight(m) || m.To != s.Id {
		return s, nil
	}
	if m.Term < s.K.Term {
		answers := map[int]int{1: 2, 3: 4, 5: 4}
		if answers[m.Kind] == 0 {
			return s, nil
		}
		return s, backWanted(s, m, answers[m.Kind], false, 0)
	}
	now := s
	if m.Term > s.K.Term {
		now = laterWanted(s, m.Term)
	}
	handlers := map[int]func(impl.Server, impl.Msg) (impl.Server, []impl.Msg, bool){1: onVoteWanted, 2: onVotedWanted, 3: onAppendWanted, 4: onAppendedWanted, 5: onSnapWanted}
	done, list, ok := handlers[m.Kind](now, m)
	if !ok {
		return s, nil
	}
	return done, list
}

// leadOnWanted is asked of a Leader with room. No entry is of term 0, so one of that term has none.
func leadOnWanted(s impl.Server, kind int, data []byte) (impl.Server, []impl.Msg, bool) {
	s = agreeWanted(ownedWanted(s, impl.Entry{Kind: kind, Data: data}))
	if s.Role != 2 {
		return s, nil, true
	}
	return s, allSentWanted(s), true
}

func leadsWanted(s impl.Server) bool {
	return serverRight(s) && s.Role == 2 && s.K.Term > 0 && hasRoomWanted(s.K)
}

func proposeWanted(s impl.Server, data []byte) (impl.Server, []impl.Msg, bool) {
	if !leadsWanted(s) || len(data) > mostCommand {
		return s, nil, false
	}
	return leadOnWanted(s, 2, data)
}

func changeWanted(s impl.Server, next []int) (impl.Server, []impl.Msg, bool) {
	if !leadsWanted(s) || s.Commit < groupAtWanted(s.K) {
		return s, nil, false
	}
	g, ok := jointWanted(groupWanted(s.K), next)
	if !ok {
		return s, nil, false
	}
	return leadOnWanted(s, 3, groupBytesWanted(g))
}

func compactWanted(s impl.Server, index int, snap []byte) (impl.Server, bool) {
	if !serverRight(s) || index <= s.K.Base || index > s.Commit || len(snap) == 0 || len(snap) > mostData {
		return s, false
	}
	upTo := s.K
	upTo.Log = entriesOf(s.K, func(at int) bool { return at <= index })
	s.K.Group, s.K.Snap = groupWanted(upTo), snap
	s.K.BaseTerm = upTo.Log[len(upTo.Log)-1].Term
	s.K.Log = entriesOf(s.K, func(at int) bool { return at > index })
	s.K.Base = index
	return s, true
}

// checkMoved is promise 15 of one call: what was right is right, its messages are right and its own, its term and what is agreed do not fall, and a vote stays in its term. Only the one who asks for it gets one.
func checkMoved(t *testing.T, s impl.Server, got impl.Server, msgs []impl.Msg, asker int) {
	t.Helper()
	if !serverRight(s) {
		return
	}
	if !impl.ServerOk(got) || !serverRight(got) || got.Id != s.Id {
		t.Fatalf("of %s comes %s, which is not right", serverText(s), serverText(got))
	}
	for _, m := range msgs {
		if !impl.MsgOk(m) || !msgRight(m) || m.From != s.Id || m.Term != got.K.Term {
			t.Fatalf("of %s comes %s, which is not right", serverText(s), msgText(m))
		}
	}
	if got.K.Term < s.K.Term || got.Commit < s.Commit || got.K.Base < s.K.Base {
		t.Fatalf("of %s comes %s: something fell", serverText(s), serverText(got))
	}
	mayVote := got.K.Vote == 0 || asker > 0 && got.K.Vote == asker
	if got.K.Term == s.K.Term {
		mayVote = got.K.Vote == s.K.Vote || s.K.Vote == 0 && asker > 0 && got.K.Vote == asker
	}
	if !mayVote {
		t.Fatalf("of %s comes %s: another vote", serverText(s), serverText(got))
	}
	for index := got.K.Base + 1; index <= s.Commit; index++ {
		was, _ := entryAt(s.K, index)
		if is, there := entryAt(got.K, index); !there || !sameEntry(was, is) {
			t.Fatalf("of %s comes %s: entry %d was agreed", serverText(s), serverText(got), index)
		}
	}
}

// askedBeside hands an argument beside the server in with spare room behind its lists, which its memory tells, and fails if the call changes it, or if the answer has some of it.
func askedBeside(t *testing.T, own *memory, call func() (impl.Server, []impl.Msg)) (impl.Server, []impl.Msg) {
	t.Helper()
	ahead := own.text()
	got, msgs := call()
	if own.text() != ahead {
		t.Fatal("an argument was changed, or the room behind")
	}
	was, sent := cloneServer(got), cloneMsgs(msgs)
	own.scribble()
	if !sameServer(got, was) || !sameMsgs(msgs, sent) {
		t.Fatalf("%s, %s has an argument's memory", serverText(was), msgsText(sent))
	}
	return got, msgs
}

func askerOf(m impl.Msg) int {
	if m.Kind != 1 {
		return 0
	}
	return m.From
}

func sameHandled(t *testing.T, s impl.Server, m impl.Msg, got impl.Server, msgs []impl.Msg) {
	t.Helper()
	want, list := handleWanted(s, m)
	if !sameServer(got, want) || !sameMsgs(msgs, list) {
		t.Fatalf("Handle(%s, %s) = %s, %s, not %s, %s", serverText(s), msgText(m), serverText(got), msgsText(msgs), serverText(want), msgsText(list))
	}
	checkMoved(t, s, got, msgs, askerOf(m))
}

func checkHandle(t *testing.T, s impl.Server, m impl.Msg) (impl.Server, []impl.Msg) {
	t.Helper()
	got, msgs := askedServer(t, s, func(x impl.Server) (impl.Server, []impl.Msg) {
		given, own := roomyMsg(m), &memory{}
		own.addMsgs(given)
		return askedBeside(t, own, func() (impl.Server, []impl.Msg) { return impl.Handle(x, given) })
	})
	sameHandled(t, s, m, got, msgs)
	return got, msgs
}

// quickHandle asks the same without a look at the memory.
func quickHandle(t *testing.T, s impl.Server, m impl.Msg) (impl.Server, []impl.Msg) {
	t.Helper()
	got, msgs := impl.Handle(s, m)
	sameHandled(t, s, m, got, msgs)
	return got, msgs
}

func checkPropose(t *testing.T, s impl.Server, data []byte) (impl.Server, []impl.Msg, bool) {
	t.Helper()
	ok := false
	got, msgs := askedServer(t, s, func(x impl.Server) (impl.Server, []impl.Msg) {
		given := roomy(data, []byte("spare room"))
		return askedBeside(t, &memory{bytes: [][]byte{given}}, func() (a impl.Server, b []impl.Msg) {
			a, b, ok = impl.Propose(x, given)
			return a, b
		})
	})
	want, list, done := proposeWanted(s, data)
	if ok != done || !sameServer(got, want) || !sameMsgs(msgs, list) {
		t.Fatalf("Propose(%s, %d bytes) = %s, %s, %v, not %s, %s, %v", serverText(s), len(data), serverText(got), msgsText(msgs), ok, serverText(want), msgsText(list), done)
	}
	checkMoved(t, s, got, msgs, 0)
	return got, msgs, ok
}

func checkChange(t *testing.T, s impl.Server, next []int) (impl.Server, []impl.Msg, bool) {
	t.Helper()
	ok := false
	got, msgs := askedServer(t, s, func(x impl.Server) (impl.Server, []impl.Msg) {
		given := roomyRow(next)[:len(next)]
		return askedBeside(t, &memory{rows: [][]int{given}}, func() (a impl.Server, b []impl.Msg) {
			a, b, ok = impl.Change(x, given)
			return a, b
		})
	})
	want, list, done := changeWanted(s, next)
	if ok != done || !sameServer(got, want) || !sameMsgs(msgs, list) {
		t.Fatalf("Change(%s, %v) = %s, %s, %v, not %s, %s, %v", serverText(s), next, serverText(got), msgsText(msgs), ok, serverText(want), msgsText(list), done)
	}
	checkMoved(t, s, got, msgs, 0)
	return got, msgs, ok
}

func checkCompact(t *testing.T, s impl.Server, index int, snap []byte) (impl.Server, bool) {
	t.Helper()
	ok := false
	got, _ := askedServer(t, s, func(x impl.Server) (impl.Server, []impl.Msg) {
		given := roomy(snap, []byte("spare room"))
		return askedBeside(t, &memory{bytes: [][]byte{given}}, func() (a impl.Server, b []impl.Msg) {
			a, ok = impl.Compact(x, index, given)
			return a, nil
		})
	})
	want, done := compactWanted(s, index, snap)
	if ok != done || !sameServer(got, want) {
		t.Fatalf("Compact(%s, %d, %d bytes) = %s, %v, not %s, %v", serverText(s), index, len(snap), serverText(got), ok, serverText(want), done)
	}
	checkMoved(t, s, got, nil, 0)
	return got, ok
}

// The three roles of server 2 with the entries 4 to 6 behind a snapshot, in term 4, in which it voted for itself; 5 is agreed.
func threeRoles() map[int]impl.Server {
	k := kept(4, 2, 3, 2, "snap", noop(2), asked(3, "five"), asked(3, "six"))
	follower := withServer(serverOf(2, k), func(s *impl.Server) { s.Commit, s.Lead, s.Elapsed = 5, 3, 3 })
	candidate := withServer(candidateOf(2, k), func(s *impl.Server) { s.Commit, s.Elapsed = 5, 3 })
	leader := withServer(leaderOf(2, k, 5, 5), func(s *impl.Server) { s.Elapsed = 1 })
	return map[int]impl.Server{0: follower, 1: candidate, 2: leader}
}

// msgsOf are right messages of each kind from 1 to 2 in this term, two of the kinds that may be Ok.
func msgsOf(term int) []impl.Msg {
	list := []impl.Msg{
		{Kind: 1, Index: 6, LogTerm: 3}, {Kind: 1},
		{Kind: 2, Ok: true}, {Kind: 2},
		{Kind: 3, Index: 6, LogTerm: 3, Commit: 6}, {Kind: 3, Index: 9, LogTerm: 3}, {Kind: 3, Index: 6, LogTerm: 3, Entries: []impl.Entry{noop(3)}},
		{Kind: 4, Index: 6, Ok: true}, {Kind: 4, Index: 4},
		{Kind: 5, Index: 9, LogTerm: 3, Data: []byte("new"), Group: groupOf([]int{1, 2})}, {Kind: 5, Index: 4, LogTerm: 2, Group: groupOf([]int{1, 2})}, {Kind: 5, Group: groupOf([]int{1})},
	}
	for i := range list {
		list[i].From, list[i].To, list[i].Term = 1, 2, term
	}
	return list
}

func TestHandleOfWrongServers(t *testing.T) {
	for name, s := range wrongServers() {
		for _, term := range []int{3, 4, 9} {
			for _, m := range msgsOf(term) {
				m.To = min(max(s.Id, 1), mostNodes)
				if got, msgs := quickHandle(t, s, m); !sameServer(got, s) || len(msgs) != 0 {
					t.Errorf("%s: %s, %s", name, serverText(got), msgsText(msgs))
				}
			}
		}
		m := pickedOf(rand.New(rand.NewSource(int64(len(name)))), msgsOf(9)...)
		m.To = min(max(s.Id, 1), mostNodes)
		checkHandle(t, s, m)
	}
}

func TestCallsOfWrongServers(t *testing.T) {
	for name, s := range wrongServers() {
		a, msgs, ok := checkPropose(t, s, []byte("x"))
		b, more, done := checkChange(t, s, []int{1, 2})
		c, compacted := checkCompact(t, s, 5, []byte("new"))
		if ok || done || compacted || len(msgs)+len(more) != 0 || !sameServer(a, s) || !sameServer(b, s) || !sameServer(c, s) {
			t.Error(name, serverText(a), serverText(b), serverText(c))
		}
	}
}

// Each role, and each kind with each field changed: what is not right does nothing, a greater term in it neither.
func TestHandleOfWrongMessages(t *testing.T) {
	changes, wrong := msgChanges(), 0
	for _, s := range threeRoles() {
		for _, m := range fullMsgs() {
			for name, c := range changes {
				changed := withMsg(m, c.change)
				got, msgs := quickHandle(t, s, changed)
				if !slices.Contains(c.kinds, m.Kind) {
					wrong++
					if !sameServer(got, s) || len(msgs) != 0 {
						t.Errorf("%s of %s: %s, %s", name, msgText(m), serverText(got), msgsText(msgs))
					}
				}
			}
		}
	}
	for _, m := range []impl.Msg{{}, {Kind: 6, From: 1, To: 2, Term: 9}, {Kind: 2, From: 1, To: 2, Term: 9, Index: 1}, {Kind: 2, From: 1, To: 2}, {Kind: 1, From: 0, To: 2, Term: 9}} {
		for _, s := range threeRoles() {
			if got, msgs := checkHandle(t, s, m); !sameServer(got, s) || len(msgs) != 0 {
				t.Error(msgText(m), serverText(got), msgsText(msgs))
			}
		}
	}
	if wrong < 1000 {
		t.Error(wrong)
	}
}

func TestHandleOfMessagesToOthers(t *testing.T) {
	for _, s := range threeRoles() {
		for _, term := range []int{3, 4, 9} {
			for _, m := range msgsOf(term) {
				for to := 1; to <= mostNodes; to++ {
					m.To = to
					if got, msgs := quickHandle(t, s, m); to != 2 && (!sameServer(got, s) || len(msgs) != 0) {
						t.Error(to, serverText(got), msgsText(msgs))
					}
				}
			}
		}
	}
}

// Of an old term: who asks or leads is told the own term, all else is passed over; nothing changes at any role.
func TestHandleOfOldTerms(t *testing.T) {
	answers := map[int]int{1: 2, 2: 0, 3: 4, 4: 0, 5: 4}
	for role, s := range threeRoles() {
		for term := 1; term <= 3; term++ {
			for _, m := range msgsOf(term) {
				m.LogTerm = min(m.LogTerm, term)
				for i := range m.Entries {
					m.Entries[i].Term = term
				}
				for _, from := range []int{1, 2, 7} {
					m.From = from
					want := []impl.Msg{{Kind: answers[m.Kind], From: 2, To: from, Term: 4}}
					if want[0].Kind == 0 {
						want = nil
					}
					if got, msgs := checkHandle(t, s, m); !sameServer(got, s) || !sameMsgs(msgs, want) {
						t.Errorf("role %d, %s: %s, %s", role, msgText(m), serverText(got), msgsText(msgs))
					}
				}
			}
		}
	}
}

// Of a greater term: each role is a Follower in it without a vote, whatever the kind; only one that asks gets it at once.
func TestHandleOfGreaterTerms(t *testing.T) {
	for role, s := range threeRoles() {
		for _, term := range []int{5, 6, lastTerm} {
			for _, m := range msgsOf(term) {
				got, msgs := checkHandle(t, s, m)
				gave := m.Kind == 1 && m.Index == 6
				vote, lead := 0, 0
				if gave {
					vote = 1
				}
				if m.Kind == 3 || m.Kind == 5 && m.Index > 0 {
					lead = 1
				}
				if got.K.Term != term || got.K.Vote != vote || got.Role != 0 || got.Lead != lead || len(got.Votes) != 0 || got.Next != [8]int{} || got.Match != [8]int{} || got.Wait != s.Wait {
					t.Errorf("role %d, %s: %s", role, msgText(m), serverText(got))
				}
				if elapsed := got.Elapsed; (gave || lead > 0) != (elapsed == 0) || elapsed != 0 && elapsed != s.Elapsed {
					t.Errorf("role %d, %s: elapsed %d", role, msgText(m), elapsed)
				}
				quiet := m.Kind == 2 || m.Kind == 4 || m.Kind == 5 && m.Index == 0
				if quiet != (len(msgs) == 0) || len(msgs) > 1 || len(msgs) == 1 && (msgs[0].Term != term || msgs[0].To != 1) {
					t.Errorf("role %d, %s: %s", role, msgText(m), msgsText(msgs))
				}
			}
		}
	}
}

// In the same term each role takes what is its own, and leaves the rest as it is.
func TestHandleOfTheSameTerm(t *testing.T) {
	takes := map[int][]int{0: {3, 5}, 1: {2, 3, 5}, 2: {4}}
	for role, s := range threeRoles() {
		for _, m := range msgsOf(4) {
			got, msgs := checkHandle(t, s, m)
			mine := slices.Contains(takes[role], m.Kind) && (m.Kind != 5 || m.Index > 0) && (m.Kind != 2 || m.Ok)
			if mine == sameServer(got, s) || got.K.Term != 4 || got.K.Vote != 2 {
				t.Errorf("role %d, %s: %s", role, msgText(m), serverText(got))
			}
			if m.Kind == 1 && (len(msgs) != 1 || msgs[0].Ok) || m.Kind != 1 && !mine && len(msgs) != 0 {
				t.Errorf("role %d, %s: %s", role, msgText(m), msgsText(msgs))
			}
			if mine && m.Kind != 2 && m.Kind != 4 && (got.Role != 0 || got.Lead != 1 || len(got.Votes) != 0 || got.Elapsed != 0) {
				t.Errorf("role %d, %s: %s", role, msgText(m), serverText(got))
			}
		}
	}
}

// A vote is given by a Follower that gave none, or gave it to this one, to whom has no older entry: by term, then by index.
func TestHandleVotes(t *testing.T) {
	for role, s := range threeRoles() {
		for _, vote := range []int{0, 1, 2, 3, 7} {
			s.K.Vote = vote
			for logTerm := 0; logTerm <= 4; logTerm++ {
				for _, index := range []int{0, 1, 5, 6, 7, 100, lastAt} {
					m := impl.Msg{Kind: 1, From: 1, To: 2, Term: 4, Index: index, LogTerm: logTerm}
					got, msgs := checkHandle(t, s, m)
					give := role == 0 && vote <= 1 && (logTerm == 4 || logTerm == 3 && index >= 6)
					want := s
					if give {
						want.K.Vote, want.Elapsed = 1, 0
					}
					if !sameServer(got, want) || !sameMsgs(msgs, []impl.Msg{{Kind: 2, From: 2, To: 1, Term: 4, Ok: give}}) {
						t.Errorf("role %d, vote %d, %s: %s, %s", role, vote, msgText(m), serverText(got), msgsText(msgs))
					}
					// In a later term there is no vote yet, and it is a Follower.
					m.Term = 8
					give = logTerm == 4 || logTerm == 3 && index >= 6
					got, msgs = quickHandle(t, s, m)
					if give != (got.K.Vote == 1) || give != msgs[0].Ok || got.Role != 0 || got.K.Term != 8 || msgs[0].Term != 8 {
						t.Errorf("role %d, vote %d, %s: %s, %s", role, vote, msgText(m), serverText(got), msgsText(msgs))
					}
				}
			}
		}
	}
}

// The last entry may be in the log, in the snapshot, or nowhere; an asker need be no member, and may be itself.
func TestHandleVotesByTheLastEntry(t *testing.T) {
	for name, c := range map[string]struct {
		k           impl.Keep
		index, term int
	}{
		"nothing":           {kept(7, 0, 0, 0, ""), 0, 0},
		"an entry":          {kept(7, 0, 0, 0, "", noop(5)), 1, 5},
		"a snapshot":        {kept(7, 0, 40, 5, "snap"), 40, 5},
		"a snapshot, more":  {kept(7, 0, 40, 5, "snap", noop(6), noop(7)), 42, 7},
		"the last index":    {kept(7, 0, lastAt, 5, "snap"), lastAt, 5},
		"a full log":        {kept(7, 0, 0, 0, "", noops(2, mostLog)...), mostLog, 2},
		"the last index, 2": {kept(7, 0, lastAt-1, 5, "snap", noop(6)), lastAt, 6},
	} {
		for _, from := range []int{1, 2, 5, 7} {
			for _, term := range []int{c.term - 1, c.term, c.term + 1} {
				for _, index := range []int{c.index - 1, c.index, c.index + 1} {
					m := impl.Msg{Kind: 1, From: from, To: 2, Term: 9, Index: index, LogTerm: term}
					if !msgRight(m) {
						continue
					}
					got, msgs := quickHandle(t, serverOf(2, c.k), m)
					give := term > c.term || term == c.term && index >= c.index
					if len(msgs) != 1 || msgs[0].Ok != give || msgs[0].To != from || (got.K.Vote == from) != give {
						t.Errorf("%s, %s: %s, %s", name, msgText(m), serverText(got), msgsText(msgs))
					}
				}
			}
		}
	}
}

// In one term everybody may ask, again and again: one of them gets the vote, and keeps it.
func TestHandleVotesOnceATerm(t *testing.T) {
	terms := 0
	for seed := range 40 {
		chance := rand.New(rand.NewSource(int64(seed)))
		s := serverOf(2, kept(3, 0, 0, 0, "", noop(3)))
		given := map[int]int{}
		for range 60 {
			m := impl.Msg{Kind: 1, From: 1 + chance.Intn(mostNodes), To: 2, Term: max(1, s.K.Term+chance.Intn(3)-1), Index: chance.Intn(3), LogTerm: chance.Intn(4)}
			var msgs []impl.Msg
			s, msgs = quickHandle(t, s, m)
			for _, back := range msgs {
				if back.Ok {
					if who := given[back.Term]; who != 0 && who != m.From {
						t.Fatalf("two votes in %d: %d and %d", back.Term, who, m.From)
					}
					given[back.Term] = m.From
				}
			}
		}
		terms += len(given)
	}
	if terms < 100 {
		t.Error(terms)
	}
}

// votedFor is a Candidate of this group in term 5 with these votes, and the entries 1 and 2.
func votedFor(id int, g impl.Group, votes ...int) impl.Server {
	s := candidateOf(id, withGroup(kept(5, id, 0, 0, "", noop(3), asked(4, "x")), g))
	s.Votes, s.Elapsed, s.Wait = votes, 4, 9
	return s
}

func yesFrom(from int, to int) impl.Msg {
	return impl.Msg{Kind: 2, From: from, To: to, Term: 5, Ok: true}
}

func TestHandleVoted(t *testing.T) {
	five := groupOf([]int{1, 2, 3, 4, 5})
	s := votedFor(2, five, 2)
	// Not a quorum yet: the vote is kept, in its order, and counts once.
	got, msgs := checkHandle(t, s, yesFrom(5, 2))
	want := withServer(s, func(x *impl.Server) { x.Votes = []int{2, 5} })
	if !sameServer(got, want) || len(msgs) != 0 {
		t.Error(serverText(got), msgsText(msgs))
	}
	for range 3 {
		if got, msgs = checkHandle(t, got, yesFrom(5, 2)); !sameServer(got, want) || len(msgs) != 0 {
			t.Error(serverText(got), msgsText(msgs))
		}
	}
	// One's own, and one who is no member's, are votes as well, but make no quorum.
	got, _ = checkHandle(t, got, yesFrom(2, 2))
	got, msgs = checkHandle(t, got, yesFrom(7, 2))
	if !slices.Equal(got.Votes, []int{2, 5, 7}) || got.Role != 1 || len(msgs) != 0 {
		t.Error(serverText(got), msgsText(msgs))
	}
	// Not Ok is no vote.
	no := yesFrom(1, 2)
	no.Ok = false
	if still, msgs := checkHandle(t, got, no); !sameServer(still, got) || len(msgs) != 0 {
		t.Error(serverText(still), msgsText(msgs))
	}
	// A third member's makes one: it leads.
	got, msgs = checkHandle(t, got, yesFrom(1, 2))
	want = impl.Server{Id: 2, K: withGroup(kept(5, 2, 0, 0, "", noop(3), asked(4, "x"), noop(5)), five), Role: 2, Lead: 2, Next: [8]int{0, 3, 3, 3, 3, 3, 3, 3}, Match: [8]int{0, 0, 3, 0, 0, 0, 0, 0}, Wait: 9}
	list := []impl.Msg{}
	for _, to := range []int{1, 3, 4, 5} {
		list = append(list, impl.Msg{Kind: 3, From: 2, To: to, Term: 5, Index: 2, LogTerm: 4, Entries: []impl.Entry{noop(5)}})
	}
	if !sameServer(got, want) || !sameMsgs(msgs, list) {
		t.Error(serverText(got), msgsText(msgs))
	}
	// Once more behind it nothing comes of a vote.
	for from := 1; from <= mostNodes; from++ {
		if again, msgs := checkHandle(t, got, yesFrom(from, 2)); !sameServer(again, got) || len(msgs) != 0 {
			t.Error(serverText(again), msgsText(msgs))
		}
	}
	// A Follower is no Candidate.
	f := withServer(s, func(x *impl.Server) { x.Role = 0 })
	if again, msgs := checkHandle(t, f, yesFrom(1, 2)); !sameServer(again, f) || len(msgs) != 0 {
		t.Error(serverText(again), msgsText(msgs))
	}
	// One that came in with a quorum leads by the next vote, also by one that it had.
	if got, msgs = checkHandle(t, votedFor(2, five, 1, 2, 3), yesFrom(3, 2)); got.Role != 2 || len(msgs) != 4 {
		t.Error(serverText(got), msgsText(msgs))
	}
}

// Every group, joint or not, and rows of votes: it leads by just those that are a quorum of both sides.
func TestHandleVotedOfEachGroup(t *testing.T) {
	leads, waits := 0, 0
	eachGroup(func(now int, next int, g impl.Group) {
		if (now*31+next)%7 != 0 {
			return
		}
		for turn := range 3 {
			have := (now*5 + next*3 + turn*41) % allRows
			s := votedFor(1, groupOf([]int{6}), idsOf(have)...)
			s.K.Log[1] = regroup(4, byte(now), byte(next))
			from := 1 + (now+turn)%mostNodes
			got, _ := quickHandle(t, s, yesFrom(from, 1))
			all := have | 1<<(from-1)
			half := func(side int) bool { return 2*countIn(all, side) > countIn(side, side) }
			if half(now) && (next == 0 || half(next)) {
				leads++
				if got.Role == 1 || len(got.K.Log) < 3 || got.K.Log[2].Kind != 1 || got.Elapsed != 0 {
					t.Fatal(serverText(s), from, serverText(got))
				}
			} else if waits++; got.Role != 1 || !slices.Equal(got.Votes, idsOf(all)) || len(got.K.Log) != 2 {
				t.Fatal(serverText(s), from, serverText(got))
			}
		}
	})
	if leads < 500 || waits < 500 {
		t.Error(leads, waits)
	}
}

// A joint group that is agreed is settled by the next one who leads, also where that has no place in it then: it leads until that is agreed.
func TestHandleVotedSettles(t *testing.T) {
	for name, c := range map[string]struct {
		next byte
		to   []int
	}{
		"a member": {6, []int{3}},
		"gone":     {4, []int{3}},
	} {
		s := votedFor(2, groupOf([]int{1, 2, 3}), 2)
		s.K.Log[1], s.Commit, s.Votes = regroup(4, 7, c.next), 2, []int{2, 3}
		got, msgs := checkHandle(t, s, yesFrom(1, 2))
		to := []int{}
		for _, m := range msgs {
			to = append(to, m.To)
			if m.Kind != 3 || m.Index != 2 || len(m.Entries) != 2 || m.Commit != 2 {
				t.Error(name, msgText(m))
			}
		}
		if got.Role != 2 || got.Commit != 2 || len(got.K.Log) != 4 || !sameEntry(got.K.Log[3], regroup(5, c.next, 0)) || got.Match[2] != 4 || !slices.Equal(to, c.to) {
			t.Error(name, serverText(got), to)
		}
	}
	// Not agreed yet, it stays joint.
	s := votedFor(2, groupOf([]int{1, 2, 3}), 2, 3)
	s.K.Log[1], s.Commit = regroup(4, 7, 6), 1
	if got, msgs := checkHandle(t, s, yesFrom(1, 2)); got.Role != 2 || len(got.K.Log) != 3 || len(msgs) != 2 {
		t.Error(serverText(got), msgsText(msgs))
	}
	// One that came in without being a member leads by others' votes, and is a Follower at once; what goes to all others then is the snapshot.
	s = votedFor(4, groupOf([]int{1, 2, 3}), 2, 4)
	got, msgs := checkHandle(t, s, yesFrom(1, 4))
	if got.Role != 0 || got.Lead != 0 || len(got.K.Log) != 3 || got.Next != [8]int{} || len(msgs) != 3 || msgs[0].Kind != 5 {
		t.Error(serverText(got), msgsText(msgs))
	}
}

// Who would lead and has no room for its first entry is answered as it was, without the vote.
func TestHandleVotedWithoutRoom(t *testing.T) {
	for name, c := range map[string]struct {
		k     impl.Keep
		leads bool
	}{
		"full log":        {kept(5, 2, 0, 0, "", noops(2, mostLog)...), false},
		"full log, based": {kept(5, 2, 30, 1, "snap", noops(2, mostLog)...), false},
		"one less":        {kept(5, 2, 30, 1, "snap", noops(2, mostLog-1)...), true},
		"last snapshot":   {kept(5, 2, lastAt, 1, "snap"), false},
		"last index":      {kept(5, 2, lastAt-3, 1, "snap", noops(2, 3)...), false},
		"one ahead of it": {kept(5, 2, lastAt-3, 1, "snap", noops(2, 2)...), true},
	} {
		s := candidateOf(2, c.k)
		got, msgs := checkHandle(t, s, yesFrom(3, 2))
		if c.leads && (got.Role != 2 || lastOf(got.K) != lastOf(c.k)+1 || len(msgs) != 2) || !c.leads && (!sameServer(got, s) || len(msgs) != 0) {
			t.Errorf("%s: %s, %s", name, serverText(got), msgsText(msgs))
		}
		// A vote that makes no quorum is kept all the same.
		s.K.Group = groupOf(upTo(7))
		if got, _ = checkHandle(t, s, yesFrom(3, 2)); !slices.Equal(got.Votes, []int{2, 3}) || got.Role != 1 {
			t.Errorf("%s: %s", name, serverText(got))
		}
	}
}

// behindSnap follows nobody in term 6, with the entries 4 to 8 behind a snapshot up to 3; 5 is agreed.
func behindSnap() impl.Server {
	s := serverOf(2, kept(6, 0, 3, 2, "snap", noop(2), asked(3, "five"), asked(3, "six"), noop(4), asked(4, "eight")))
	s.Commit, s.Elapsed, s.Lead = 5, 4, 7
	return s
}

// appendOf goes from 1 to 2 in term 6.
func appendOf(index int, logTerm int, commit int, entries ...impl.Entry) impl.Msg {
	return impl.Msg{Kind: 3, From: 1, To: 2, Term: 6, Index: index, LogTerm: logTerm, Entries: entries, Commit: commit}
}

func appendedOf(ok bool, index int) []impl.Msg {
	return []impl.Msg{{Kind: 4, From: 2, To: 1, Term: 6, Ok: ok, Index: index}}
}

// followedBy is s led by 1, with other entries behind its first few, and this much agreed.
func followedBy(s impl.Server, stay int, commit int, more ...impl.Entry) impl.Server {
	s = followsWanted(s, 1)
	s.K.Log = slices.Concat(s.K.Log[:stay], more)
	s.Commit = commit
	return s
}

func TestHandleAppendTable(t *testing.T) {
	s := behindSnap()
	four, five, six, seven, eight := s.K.Log[0], s.K.Log[1], s.K.Log[2], s.K.Log[3], s.K.Log[4]
	new6 := asked(6, "new")
	for _, c := range []struct {
		name  string
		m     impl.Msg
		want  impl.Server
		ok    bool
		index int
	}{
		// None are sent.
		{"at the last", appendOf(8, 4, 0), followedBy(s, 5, 5), true, 8},
		{"at Base", appendOf(3, 2, 0), followedBy(s, 5, 5), true, 3},
		{"within", appendOf(6, 3, 0), followedBy(s, 5, 5), true, 6},
		{"below Base, another term", appendOf(2, 6, 0), followedBy(s, 5, 5), true, 3},
		{"at 0", appendOf(0, 0, 9), followedBy(s, 5, 5), true, 3},
		// The entry ahead is not there, or of another term.
		{"one behind the last", appendOf(9, 4, 9), followedBy(s, 5, 5), false, 8},
		{"far behind", appendOf(lastAt, 6, 9), followedBy(s, 5, 5), false, 8},
		{"behind, with entries", appendOf(10, 4, 9, new6), followedBy(s, 5, 5), false, 8},
		{"the last, of another term", appendOf(8, 5, 9, new6), followedBy(s, 5, 5), false, 7},
		{"the last, of an older one", appendOf(8, 3, 9, new6), followedBy(s, 5, 5), false, 7},
		{"within, of another term", appendOf(6, 4, 9, new6), followedBy(s, 5, 5), false, 5},
		{"within, of none", appendOf(4, 0, 9, new6), followedBy(s, 5, 5), false, 3},
		{"Base, of another term", appendOf(3, 3, 9, new6), followedBy(s, 5, 5), false, 2},
		// Up to Base they are left out.
		{"all left out", appendOf(0, 0, 9, noop(1), noop(1)), followedBy(s, 5, 5), true, 3},
		{"all up to Base", appendOf(0, 0, 9, noop(1), noop(1), noop(2)), followedBy(s, 5, 5), true, 3},
		{"Base itself, of another term", appendOf(2, 1, 9, noop(6)), followedBy(s, 5, 5), true, 3},
		{"one behind Base", appendOf(2, 1, 9, noop(2), four), followedBy(s, 5, 5), true, 4},
		{"to the last", appendOf(1, 1, 9, noop(2), noop(2), four, five, six, seven, eight), followedBy(s, 5, 8), true, 8},
		{"to a new one", appendOf(2, 1, 6, noop(2), four, five, six, seven, eight, new6), followedBy(s, 5, 6, new6), true, 9},
		{"others behind Base", appendOf(2, 1, 9, noop(2), four, five, new6), followedBy(s, 2, 6, new6), true, 6},
		// Entries that are there.
		{"the last is there", appendOf(7, 4, 0, eight), followedBy(s, 5, 5), true, 8},
		{"some are there", appendOf(4, 2, 0, five, six), followedBy(s, 5, 5), true, 6},
		{"of the term, but not alike", appendOf(4, 2, 0, noop(3), regroup(3, 7, 0)), followedBy(s, 5, 5), true, 6},
		{"the agreed ones are there", appendOf(3, 2, 0, four, five), followedBy(s, 5, 5), true, 5},
		// Entries that are new, or take the place of others.
		{"one new", appendOf(8, 4, 0, new6), followedBy(s, 5, 5, new6), true, 9},
		{"some new", appendOf(8, 4, 0, noop(4), noop(5), regroup(6, 7, 6)), followedBy(s, 5, 5, noop(4), noop(5), regroup(6, 7, 6)), true, 11},
		{"eight new", appendOf(8, 4, 99, noops(5, 8)...), followedBy(s, 5, 16, noops(5, 8)...), true, 16},
		{"there and new", appendOf(6, 3, 0, seven, eight, new6), followedBy(s, 5, 5, new6), true, 9},
		{"in the last one's place", appendOf(7, 4, 0, new6), followedBy(s, 4, 5, new6), true, 8},
		{"in the place of three", appendOf(5, 3, 0, new6), followedBy(s, 2, 5, new6), true, 6},
		{"there, then in the place of others", appendOf(4, 2, 0, five, six, noop(5), new6), followedBy(s, 3, 5, noop(5), new6), true, 8},
		{"the same again behind another one", appendOf(6, 3, 0, noop(5), asked(5, "eight")), followedBy(s, 3, 5, noop(5), asked(5, "eight")), true, 8},
		// What bounds Commit.
		{"no more than it says", appendOf(8, 4, 7), followedBy(s, 5, 7), true, 8},
		{"no more than was sent", appendOf(5, 3, 99, six), followedBy(s, 5, 6), true, 6},
		{"no more than the entry ahead", appendOf(7, 4, 99), followedBy(s, 5, 7), true, 7},
		{"all of it", appendOf(8, 4, 9, new6), followedBy(s, 5, 9, new6), true, 9},
		{"one ahead of the new one", appendOf(8, 4, 8, new6), followedBy(s, 5, 8, new6), true, 9},
		{"as it was", appendOf(8, 4, 5), followedBy(s, 5, 5), true, 8},
		{"it does not fall by the message", appendOf(8, 4, 4), followedBy(s, 5, 5), true, 8},
		{"it does not fall by the entries", appendOf(3, 2, 99, four), followedBy(s, 5, 5), true, 4},
		{"nor below Base", appendOf(0, 0, 99, noop(1)), followedBy(s, 5, 5), true, 3},
	} {
		for _, role := range []int{0, 1} {
			given := withServer(s, func(x *impl.Server) { x.Role, x.Votes = role, []int{2, 5} })
			if got, msgs := checkHandle(t, given, c.m); !sameServer(got, c.want) || !sameMsgs(msgs, appendedOf(c.ok, c.index)) {
				t.Errorf("%s, role %d: %s, %s, not %s", c.name, role, serverText(got), msgsText(msgs), serverText(c.want))
			}
		}
		// A Leader passes it over; one of an older term takes it in the term that it tells.
		leader := withServer(leaderOf(2, s.K, 5, 5), func(x *impl.Server) { x.Elapsed = 1 })
		if got, msgs := checkHandle(t, leader, c.m); !sameServer(got, leader) || len(msgs) != 0 {
			t.Errorf("%s: %s, %s", c.name, serverText(got), msgsText(msgs))
		}
		leader.K.Term, leader.K.Vote = 5, 2
		want := c.want
		want.K.Vote = 0
		if got, msgs := checkHandle(t, leader, c.m); !sameServer(got, want) || !sameMsgs(msgs, appendedOf(c.ok, c.index)) {
			t.Errorf("%s, a leader once: %s, %s", c.name, serverText(got), msgsText(msgs))
		}
	}
}

// What would change an agreed entry, or make what is kept wrong, leaves the server as it was handed in: its ticks, its role, and its term, too.
func TestHandleAppendThatLeavesAll(t *testing.T) {
	s := behindSnap()
	full := serverOf(2, kept(6, 0, 3, 2, "snap", noops(2, mostLog)...))
	nearly := serverOf(2, kept(6, 0, 3, 2, "snap", noops(2, mostLog-3)...))
	end := serverOf(2, kept(6, 0, lastAt-4, 2, "snap", noops(2, 4)...))
	base := serverOf(2, kept(6, 0, lastAt, 2, "snap"))
	for _, c := range []struct {
		name string
		s    impl.Server
		m    impl.Msg
	}{
		{"the last agreed one", s, appendOf(4, 2, 9, noop(6))},
		{"the first agreed one", s, appendOf(3, 2, 9, noop(3))},
		{"an agreed one behind Base", s, appendOf(2, 1, 9, noop(2), noop(3))},
		{"an agreed one, with others behind", s, appendOf(3, 2, 9, noop(2), noop(6), noop(6))},
		{"terms that fall behind Base", withServer(s, func(x *impl.Server) { x.K.Log, x.Commit = nil, 3 }), appendOf(2, 1, 9, noop(1), noop(1))},
		{"a full log", full, appendOf(123, 2, 0, noop(6))},
		{"a full log, the last there", full, appendOf(122, 2, 0, noop(2), noop(6))},
		{"a full log, two in the place of one", full, appendOf(122, 2, 0, noop(6), noop(6))},
		{"one more than there is room for", nearly, appendOf(120, 2, 0, noops(6, 4)...)},
		{"the last index", end, appendOf(lastAt, 2, 0, noop(6))},
		{"the last index, two in the place of one", end, appendOf(lastAt-1, 2, 0, noop(6), noop(6))},
		{"the last snapshot", base, appendOf(lastAt, 2, 0, noop(6))},
		{"the last snapshot, left out in part", base, appendOf(lastAt-1, 2, 0, noop(2), noop(6))},
	} {
		for _, term := range []int{6, 3} {
			for role := range 2 {
				given := withServer(c.s, func(x *impl.Server) { x.Role, x.Votes, x.K.Vote = role, []int{2}, 2 })
				if term == 3 && (role == 1 || c.s.K.Log != nil && c.s.K.Log[len(c.s.K.Log)-1].Term > 3) {
					continue
				}
				given.K.Term = term
				if got, msgs := checkHandle(t, given, c.m); !sameServer(got, given) || len(msgs) != 0 {
					t.Errorf("%s, term %d, role %d: %s, %s", c.name, term, role, serverText(got), msgsText(msgs))
				}
			}
		}
	}
	// As many as there is room for are taken, and in others' places a full log takes as many.
	for _, c := range []struct {
		name string
		s    impl.Server
		m    impl.Msg
		last int
	}{
		{"just full", nearly, appendOf(120, 2, 0, noops(6, 3)...), 123},
		{"one in the place of one", full, appendOf(122, 2, 0, noop(6)), 123},
		{"one in the place of many", full, appendOf(50, 2, 0, noop(6)), 51},
		{"nothing new", full, appendOf(123, 2, 0), 123},
		{"all there", full, appendOf(119, 2, 0, noops(2, 4)...), 123},
		{"the last index in its place", end, appendOf(lastAt-1, 2, lastAt, noop(6)), lastAt},
		{"nothing behind the last index", end, appendOf(lastAt, 2, lastAt), lastAt},
		{"up to the last index", withServer(end, func(x *impl.Server) { x.K.Log = x.K.Log[:3] }), appendOf(lastAt-1, 2, lastAt, noop(6)), lastAt},
		{"up to the last snapshot", base, appendOf(lastAt-2, 2, lastAt, noop(2), noop(2)), lastAt},
	} {
		got, msgs := checkHandle(t, c.s, c.m)
		if lastOf(got.K) != c.last || len(msgs) != 1 || !msgs[0].Ok || msgs[0].Index != c.last || got.Lead != 1 {
			t.Errorf("%s: %s, %s", c.name, serverText(got), msgsText(msgs))
		}
	}
}

// Every short log by every short message: what both agree on stays, and what is answered is had.
func TestHandleAppendOfEveryShortLog(t *testing.T) {
	oks, noes, lefts := 0, 0, 0
	terms := [][]int{{}, {1}, {2}, {1, 1}, {1, 2}, {2, 2}, {1, 1, 2}, {1, 2, 3}, {2, 2, 2}}
	logOf := func(row []int, data string) []impl.Entry {
		list := []impl.Entry{}
		for _, term := range row {
			list = append(list, asked(term, data))
		}
		return list
	}
	for base := range 3 {
		for _, mine := range terms {
			k := kept(3, 0, base, min(base, 1), strings.Repeat("s", min(base, 1)), logOf(mine, "mine")...)
			for commit := base; commit <= lastOf(k); commit++ {
				for _, theirs := range terms {
					for index := range 6 {
						for logTerm := range 3 {
							s := serverOf(2, k)
							s.Commit = commit
							m := impl.Msg{Kind: 3, From: 3, To: 2, Term: 3, Index: index, LogTerm: logTerm, Entries: logOf(theirs, "theirs"), Commit: (index + logTerm) % 6}
							got, msgs := quickHandle(t, s, m)
							switch {
							case len(msgs) == 0:
								lefts++
							case msgs[0].Ok:
								oks++
								if last := msgs[0].Index; last > lastOf(got.K) || last < got.K.Base || got.Commit > max(commit, last) {
									t.Fatal(serverText(s), msgText(m), serverText(got), msgsText(msgs))
								}
							default:
								noes++
								if msgs[0].Index > lastOf(s.K) || msgs[0].Index > max(0, index-1) || !sameKeep(got.K, s.K) {
									t.Fatal(serverText(s), msgText(m), serverText(got), msgsText(msgs))
								}
							}
						}
					}
				}
			}
		}
	}
	if oks < 1000 || noes < 1000 || lefts < 300 {
		t.Error(oks, noes, lefts)
	}
}

// leadsFive leads 1 to 5 in term 4 with the entries 4 to 9, of which the last three are of its term; to 3 all is agreed.
func leadsFive() impl.Server {
	k := kept(4, 2, 3, 2, "snap", noop(2), asked(3, "five"), asked(3, "six"), noop(4), asked(4, "eight"), asked(4, "nine"))
	s := leaderOf(2, withGroup(k, groupOf(upTo(5))), 3, 0)
	s.Match[2], s.Elapsed = 9, 1
	return s
}

func hadBy(from int, index int, ok bool) impl.Msg {
	return impl.Msg{Kind: 4, From: from, To: 2, Term: 4, Index: index, Ok: ok}
}

func TestHandleAppended(t *testing.T) {
	s := leadsFive()
	for _, c := range []struct {
		name                     string
		from, index, match, next int
		wantMatch                int
	}{
		{"nothing", 1, 0, 0, 10, 0},
		{"one", 1, 4, 0, 10, 4},
		{"all", 1, 9, 0, 10, 9},
		{"above the last", 1, 10, 0, 10, 9},
		{"far above the last", 1, lastAt, 0, 1, 9},
		{"less than was known", 1, 4, 6, 10, 6},
		{"what was known", 3, 6, 6, 2, 6},
		{"no member", 7, 9, 0, 3, 9},
	} {
		given := withServer(s, func(x *impl.Server) { x.Match[c.from], x.Next[c.from] = c.match, c.next })
		got, msgs := checkHandle(t, given, hadBy(c.from, c.index, true))
		want := given
		want.Match[c.from], want.Next[c.from] = c.wantMatch, c.wantMatch+1
		if !sameServer(got, want) || (len(msgs) == 0) != (c.wantMatch == 9) || len(msgs) > 1 || len(msgs) == 1 && msgs[0].To != c.from {
			t.Errorf("%s: %s, %s", c.name, serverText(got), msgsText(msgs))
		}
	}
	// From itself nothing comes of it, nor at one that does not lead.
	for _, ok := range []bool{true, false} {
		if got, msgs := checkHandle(t, s, hadBy(2, 5, ok)); !sameServer(got, s) || len(msgs) != 0 {
			t.Error(serverText(got), msgsText(msgs))
		}
		for role := range 2 {
			other := threeRoles()[role]
			if got, msgs := checkHandle(t, other, hadBy(1, 6, ok)); !sameServer(got, other) || len(msgs) != 0 {
				t.Error(serverText(got), msgsText(msgs))
			}
		}
	}
}

// What is sent on: the entries behind what it has, eight at most, or the snapshot.
func TestHandleAppendedSendsOn(t *testing.T) {
	s := leadsFive()
	_, msgs := checkHandle(t, s, hadBy(1, 7, true))
	if want := []impl.Msg{{Kind: 3, From: 2, To: 1, Term: 4, Index: 7, LogTerm: 4, Entries: s.K.Log[4:], Commit: 3}}; !sameMsgs(msgs, want) {
		t.Error(msgsText(msgs))
	}
	_, msgs = checkHandle(t, s, hadBy(1, 3, true))
	if want := []impl.Msg{{Kind: 3, From: 2, To: 1, Term: 4, Index: 3, LogTerm: 2, Entries: s.K.Log, Commit: 3}}; !sameMsgs(msgs, want) {
		t.Error(msgsText(msgs))
	}
	_, msgs = checkHandle(t, s, hadBy(1, 2, true))
	if want := []impl.Msg{{Kind: 5, From: 2, To: 1, Term: 4, Index: 3, LogTerm: 2, Data: []byte("snap"), Group: groupOf(upTo(5))}}; !sameMsgs(msgs, want) {
		t.Error(msgsText(msgs))
	}
	long := leaderOf(2, kept(4, 2, 0, 0, "", noops(4, 30)...), 0, 0)
	for index := range 31 {
		got, msgs := checkHandle(t, long, hadBy(1, index, true))
		if index == 30 && len(msgs) != 0 || index < 30 && (len(msgs) != 1 || len(msgs[0].Entries) != min(8, 30-index) || msgs[0].Index != index) || got.Next[1] != index+1 {
			t.Error(index, msgsText(msgs))
		}
	}
}

// Not Ok: it goes back at least by one, to behind what the other has, and not below 1; nothing else changes.
func TestHandleAppendedNotOk(t *testing.T) {
	s := leadsFive()
	for next := 1; next <= 10; next++ {
		for index := range 12 {
			given := withServer(s, func(x *impl.Server) { x.Next[4], x.Match[4] = next, min(next, 4) })
			want := withServer(given, func(x *impl.Server) { x.Next[4] = max(1, min(next-1, index+1)) })
			got, msgs := checkHandle(t, given, hadBy(4, index, false))
			if !sameServer(got, want) || len(msgs) != 1 || msgs[0].To != 4 {
				t.Errorf("next %d, index %d: %s, %s", next, index, serverText(got), msgsText(msgs))
			}
			if snap := want.Next[4] <= 3; snap != (msgs[0].Kind == 5) || !snap && (msgs[0].Index != want.Next[4]-1 || len(msgs[0].Entries) != 10-want.Next[4]) {
				t.Errorf("next %d, index %d: %s", next, index, msgsText(msgs))
			}
		}
	}
}

// Entries are agreed by a quorum, of the own term alone: those of earlier ones with the first of it.
func TestHandleAppendedAgrees(t *testing.T) {
	s := leadsFive()
	for first := range 10 {
		for second := range 10 {
			got, _ := checkHandle(t, withServer(s, func(x *impl.Server) { x.Match[1], x.Next[1] = first, first+1 }), hadBy(5, second, true))
			want := 3
			if both := min(first, second); both >= 7 {
				want = both
			}
			if got.Commit != want || got.Role != 2 || len(got.K.Log) != 6 {
				t.Errorf("%d and %d: %s", first, second, serverText(got))
			}
		}
	}
	// One that is no member counts nothing.
	got, _ := checkHandle(t, withServer(s, func(x *impl.Server) { x.Match[6] = 9 }), hadBy(1, 9, true))
	if got.Commit != 3 {
		t.Error(serverText(got))
	}
	// What is agreed is told with what is sent on.
	got, msgs := checkHandle(t, withServer(s, func(x *impl.Server) { x.Match[1], x.Match[3] = 9, 8 }), hadBy(4, 7, true))
	if got.Commit != 8 || len(msgs) != 1 || msgs[0].Commit != 8 || msgs[0].Index != 7 {
		t.Error(serverText(got), msgsText(msgs))
	}
}

// A joint group asks both sides; agreed, it is settled, and that entry is sent on.
func TestHandleAppendedSettles(t *testing.T) {
	// Now 1 2 3, then 2 4 5.
	k := kept(4, 2, 0, 0, "", noop(4), regroup(4, 7, 26))
	s := leaderOf(2, k, 1, 0)
	s.Match[2] = 2
	got, msgs := checkHandle(t, s, hadBy(1, 2, true))
	if got.Commit != 1 || len(got.K.Log) != 2 || len(msgs) != 0 {
		t.Error(serverText(got), msgsText(msgs))
	}
	got, msgs = checkHandle(t, got, hadBy(5, 2, true))
	settled := regroup(4, 26, 0)
	if got.Commit != 2 || len(got.K.Log) != 3 || !sameEntry(got.K.Log[2], settled) || got.Match[2] != 3 || got.Role != 2 {
		t.Error(serverText(got))
	}
	if want := []impl.Msg{{Kind: 3, From: 2, To: 5, Term: 4, Index: 2, LogTerm: 4, Entries: []impl.Entry{settled}, Commit: 2}}; !sameMsgs(msgs, want) {
		t.Error(msgsText(msgs))
	}
	// The new group's quorum agrees on it; 1 is no member any more.
	got, msgs = checkHandle(t, got, hadBy(1, 3, true))
	if got.Commit != 2 || len(msgs) != 0 {
		t.Error(serverText(got), msgsText(msgs))
	}
	if got, msgs = checkHandle(t, got, hadBy(4, 3, true)); got.Commit != 3 || got.Role != 2 || len(got.K.Log) != 3 || len(msgs) != 0 {
		t.Error(serverText(got), msgsText(msgs))
	}
	// To a group of the others it leads until that is agreed, and follows then; nothing is sent to whom it was agreed by, though it lacks some.
	gone := leaderOf(2, kept(4, 2, 0, 0, "", regroup(4, 7, 13), regroup(4, 13, 0), noop(4)), 1, 0)
	gone.Match[2], gone.Match[1] = 3, 2
	got, msgs = checkHandle(t, gone, hadBy(4, 2, true))
	if got.Commit != 2 || got.Role != 0 || got.Lead != 0 || got.Next != [8]int{} || got.Match != [8]int{} || len(msgs) != 0 || got.K.Term != 4 || got.K.Vote != 2 || got.Elapsed != gone.Elapsed {
		t.Error(serverText(got), msgsText(msgs))
	}
	// It does not follow before.
	if got, msgs = checkHandle(t, gone, hadBy(4, 1, true)); got.Commit != 1 || got.Role != 2 || len(msgs) != 1 {
		t.Error(serverText(got), msgsText(msgs))
	}
	// Settled by one message, and agreed by it as well where those alone are left that have the entry by what is known.
	alone := leaderOf(2, kept(4, 2, 0, 0, "", regroup(4, 3, 2)), 0, 0)
	alone.Match[2] = 1
	if got, msgs = checkHandle(t, alone, hadBy(1, 1, true)); got.Commit != 2 || got.Role != 2 || len(got.K.Log) != 2 || len(msgs) != 1 || msgs[0].Commit != 2 {
		t.Error(serverText(got), msgsText(msgs))
	}
}

// Where no entry more may be had a joint group stays one; it is agreed all the same.
func TestHandleAppendedSettlesIfThereIsRoom(t *testing.T) {
	for name, c := range map[string]struct {
		k    impl.Keep
		more int
	}{
		"full log":    {kept(4, 2, 0, 0, "", append(noops(4, mostLog-1), regroup(4, 7, 14))...), 0},
		"one less":    {kept(4, 2, 0, 0, "", append(noops(4, mostLog-2), regroup(4, 7, 14))...), 1},
		"last index":  {kept(4, 2, lastAt-1, 1, "snap", regroup(4, 7, 14)), 0},
		"one less, 2": {kept(4, 2, lastAt-2, 1, "snap", regroup(4, 7, 14)), 1},
	} {
		last := lastOf(c.k)
		s := leaderOf(2, c.k, last-1, 0)
		s.Match[2], s.Match[4] = last, last
		got, msgs := checkHandle(t, s, hadBy(3, last, true))
		if got.Commit != last || lastOf(got.K) != last+c.more || got.Role != 2 || len(msgs) != c.more || (len(groupWanted(got.K).Next) == 0) != (c.more == 1) {
			t.Errorf("%s: %s, %s", name, serverText(got), msgsText(msgs))
		}
	}
}

func snapOf(index int, logTerm int) impl.Msg {
	return impl.Msg{Kind: 5, From: 1, To: 2, Term: 6, Index: index, LogTerm: logTerm, Data: []byte("new"), Group: groupOf([]int{1, 2}, 2, 4)}
}

func TestHandleSnapTable(t *testing.T) {
	s := behindSnap()
	based := func(index int, term int, stay int) impl.Server {
		x := followedBy(s, 5, index)
		x.K.Base, x.K.BaseTerm, x.K.Group, x.K.Snap, x.K.Log = index, term, groupOf([]int{1, 2}, 2, 4), []byte("new"), s.K.Log[stay:]
		return x
	}
	for _, c := range []struct {
		name  string
		m     impl.Msg
		want  impl.Server
		index int
	}{
		// Not above Commit: what it has is told.
		{"of 1", snapOf(1, 1), followedBy(s, 5, 5), 5},
		{"at Base", snapOf(3, 2), followedBy(s, 5, 5), 5},
		{"below Commit", snapOf(4, 2), followedBy(s, 5, 5), 5},
		{"at Commit", snapOf(5, 3), followedBy(s, 5, 5), 5},
		{"at Commit, of another term", snapOf(5, 6), followedBy(s, 5, 5), 5},
		{"at Commit, of no term", snapOf(5, 0), followedBy(s, 5, 5), 5},
		// Above it: with the entry there, those behind it stay.
		{"one above", snapOf(6, 3), based(6, 3, 3), 6},
		{"two above", snapOf(7, 4), based(7, 4, 4), 7},
		{"at the last", snapOf(8, 4), based(8, 4, 5), 8},
		// It is there with another term, or not there.
		{"one above, of another term", snapOf(6, 4), based(6, 4, 5), 6},
		{"one above, of an older one", snapOf(6, 2), based(6, 2, 5), 6},
		{"at the last, of another term", snapOf(8, 6), based(8, 6, 5), 8},
		{"behind the last", snapOf(9, 4), based(9, 4, 5), 9},
		{"far behind", snapOf(lastAt, 6), based(lastAt, 6, 5), lastAt},
	} {
		for role := range 2 {
			given := withServer(s, func(x *impl.Server) { x.Role, x.Votes = role, []int{2, 5} })
			if got, msgs := checkHandle(t, given, c.m); !sameServer(got, c.want) || !sameMsgs(msgs, appendedOf(true, c.index)) {
				t.Errorf("%s, role %d: %s, %s, not %s", c.name, role, serverText(got), msgsText(msgs), serverText(c.want))
			}
		}
		leader := withServer(leaderOf(2, s.K, 5, 5), func(x *impl.Server) { x.Elapsed = 1 })
		if got, msgs := checkHandle(t, leader, c.m); !sameServer(got, leader) || len(msgs) != 0 {
			t.Errorf("%s: %s, %s", c.name, serverText(got), msgsText(msgs))
		}
		leader.K.Term, leader.K.Vote = 5, 2
		if got, msgs := checkHandle(t, leader, c.m); !sameServer(got, c.want) || !sameMsgs(msgs, appendedOf(true, c.index)) {
			t.Errorf("%s, a leader once: %s, %s", c.name, serverText(got), msgsText(msgs))
		}
	}
}

func TestHandleSnapThatLeavesAll(t *testing.T) {
	for role, s := range map[int]impl.Server{0: behindSnap(), 1: withServer(behindSnap(), func(x *impl.Server) { x.Role, x.Votes, x.K.Vote = 1, []int{2}, 2 })} {
		// An entry has a term, so a snapshot above Commit without one makes what is kept wrong; a later term is not taken either.
		for _, index := range []int{6, 8, 9, lastAt} {
			for _, term := range []int{6, 9} {
				m := snapOf(index, 0)
				m.Term = term
				if got, msgs := checkHandle(t, s, m); !sameServer(got, s) || len(msgs) != 0 {
					t.Errorf("role %d, index %d: %s, %s", role, index, serverText(got), msgsText(msgs))
				}
			}
		}
		// Index 0 is passed over, whatever else it has; its term is taken.
		for _, logTerm := range []int{0, 3} {
			if got, msgs := checkHandle(t, s, snapOf(0, logTerm)); !sameServer(got, s) || len(msgs) != 0 {
				t.Errorf("role %d: %s, %s", role, serverText(got), msgsText(msgs))
			}
			m := snapOf(0, logTerm)
			m.Term = 9
			if got, msgs := checkHandle(t, s, m); !sameServer(got, laterWanted(s, 9)) || len(msgs) != 0 {
				t.Errorf("role %d: %s, %s", role, serverText(got), msgsText(msgs))
			}
		}
	}
	// A snapshot may have no bytes, or as many as may be; a full log has room for it.
	for _, length := range []int{0, 1, mostData} {
		for _, s := range []impl.Server{behindSnap(), serverOf(2, kept(6, 0, 3, 2, "snap", noops(2, mostLog)...)), serverOf(2, kept(0, 0, 0, 0, ""))} {
			m := snapOf(200, 5)
			m.Data = []byte(longText(length))
			got, msgs := checkHandle(t, s, m)
			if got.K.Base != 200 || len(got.K.Snap) != length || len(got.K.Log) != 0 || got.Commit != 200 || len(msgs) != 1 || msgs[0].Index != 200 {
				t.Error(serverText(got), msgsText(msgs))
			}
		}
	}
}

func TestPropose(t *testing.T) {
	s := leadsFive()
	got, msgs, ok := checkPropose(t, s, []byte("ten"))
	want := withServer(s, func(x *impl.Server) {
		x.K.Log, x.Match[2] = append(x.K.Log, asked(4, "ten")), 10
	})
	list := []impl.Msg{}
	for _, to := range []int{1, 3, 4, 5} {
		list = append(list, impl.Msg{Kind: 3, From: 2, To: to, Term: 4, Index: 9, LogTerm: 4, Entries: []impl.Entry{asked(4, "ten")}, Commit: 3})
	}
	if !ok || !sameServer(got, want) || !sameMsgs(msgs, list) {
		t.Error(serverText(got), msgsText(msgs), ok)
	}
	for length, want := range map[int]bool{0: true, 1: true, 399: true, 400: true, 401: false, 402: false, 20000: false} {
		got, msgs, ok := checkPropose(t, s, []byte(longText(length)))
		if ok != want || !ok && (!sameServer(got, s) || len(msgs) != 0) || ok && (len(got.K.Log) != 7 || len(got.K.Log[6].Data) != length || len(msgs) != 4) {
			t.Error(length, serverText(got), msgsText(msgs), ok)
		}
	}
	if _, _, ok := checkPropose(t, s, nil); !ok {
		t.Error("no data")
	}
	for role := range 2 {
		other := threeRoles()[role]
		if got, msgs, ok := checkPropose(t, other, []byte("x")); ok || !sameServer(got, other) || len(msgs) != 0 {
			t.Error(role, serverText(got), msgsText(msgs), ok)
		}
	}
	// Alone it is agreed at once, with all that was not yet.
	one := leaderOf(2, withGroup(kept(4, 2, 0, 0, "", noop(2), noop(4)), groupOf([]int{2})), 0, 0)
	if got, msgs, ok := checkPropose(t, one, []byte("x")); !ok || got.Commit != 3 || len(msgs) != 0 || got.Role != 2 {
		t.Error(serverText(got), msgsText(msgs), ok)
	}
	// What others are known to have counts, too: by it a group that waited is settled, and who leaves it follows.
	joint := leaderOf(2, withGroup(kept(4, 2, 0, 0, "", noop(4)), groupOf([]int{2}, 2)), 1, 0)
	if got, msgs, ok := checkPropose(t, joint, []byte("x")); !ok || len(got.K.Log) != 3 || got.Commit != 3 || len(msgs) != 0 {
		t.Error(serverText(got), msgsText(msgs), ok)
	}
	gone := leaderOf(2, withGroup(kept(4, 2, 0, 0, "", noop(4)), groupOf([]int{1, 3})), 1, 0)
	if got, msgs, ok := checkPropose(t, gone, []byte("x")); !ok || got.Role != 0 || len(got.K.Log) != 2 || got.Next != [8]int{} || len(msgs) != 0 {
		t.Error(serverText(got), msgsText(msgs), ok)
	}
}

// roomFor are Keeps with room for so many entries more.
func roomFor() map[string]struct {
	k    impl.Keep
	room int
} {
	return map[string]struct {
		k    impl.Keep
		room int
	}{
		"full log":        {kept(4, 2, 0, 0, "", noops(4, mostLog)...), 0},
		"full log, based": {kept(4, 2, 7, 1, "snap", noops(4, mostLog)...), 0},
		"one less":        {kept(4, 2, 0, 0, "", noops(4, mostLog-1)...), 1},
		"two less":        {kept(4, 2, 7, 1, "snap", noops(4, mostLog-2)...), 2},
		"last index":      {kept(4, 2, lastAt-2, 1, "snap", noops(4, 2)...), 0},
		"last snapshot":   {kept(4, 2, lastAt, 1, "snap"), 0},
		"one ahead":       {kept(4, 2, lastAt-1, 1, "snap"), 1},
		"two ahead":       {kept(4, 2, lastAt-3, 1, "snap", noop(4)), 2},
		"both":            {kept(4, 2, lastAt-mostLog, 1, "snap", noops(4, mostLog)...), 0},
		"term 0":          {kept(0, 0, 0, 0, ""), 0},
	}
}

func TestProposeAndChangeWithoutRoom(t *testing.T) {
	for name, c := range roomFor() {
		s := leaderOf(2, c.k, c.k.Base, 0)
		a, msgs, ok := checkPropose(t, s, []byte("x"))
		b, more, done := checkChange(t, s, []int{2, 3})
		if ok != (c.room > 0) || done != (c.room > 0) {
			t.Fatalf("%s: %v, %v", name, ok, done)
		}
		if !ok && (!sameServer(a, s) || !sameServer(b, s) || len(msgs)+len(more) != 0) {
			t.Errorf("%s: %s, %s", name, serverText(a), serverText(b))
		}
		if ok && (lastOf(a.K) != lastOf(c.k)+1 || lastOf(b.K) != lastOf(c.k)+1 || len(msgs) != 2 || len(more) != 2) {
			t.Errorf("%s: %s, %s", name, serverText(a), serverText(b))
		}
		// Alone in both sides of a joint group, a second entry is had where there is room.
		alone := leaderOf(2, withGroup(c.k, groupOf([]int{2}, 2)), c.k.Base, 0)
		if a, _, ok = checkPropose(t, alone, nil); ok && (lastOf(a.K) != lastOf(c.k)+min(c.room, 2) || a.Commit != lastOf(a.K)) {
			t.Errorf("%s: %s", name, serverText(a))
		}
	}
}

func TestChange(t *testing.T) {
	s := leadsFive()
	// 1 to 5, then 2 and 7: sent to all of both.
	got, msgs, ok := checkChange(t, s, []int{2, 7})
	entry := regroup(4, 31, 66)
	want := withServer(s, func(x *impl.Server) { x.K.Log, x.Match[2] = append(x.K.Log, entry), 10 })
	list := []impl.Msg{}
	for _, to := range []int{1, 3, 4, 5, 7} {
		list = append(list, impl.Msg{Kind: 3, From: 2, To: to, Term: 4, Index: 9, LogTerm: 4, Entries: []impl.Entry{entry}, Commit: 3})
	}
	if !ok || !sameServer(got, want) || !sameMsgs(msgs, list) {
		t.Error(serverText(got), msgsText(msgs), ok)
	}
	// Joint already, nothing changes; agreed or not.
	for commit := 3; commit <= 10; commit++ {
		joint := withServer(got, func(x *impl.Server) { x.Commit = commit })
		if again, msgs, ok := checkChange(t, joint, []int{1}); ok || !sameServer(again, joint) || len(msgs) != 0 {
			t.Error(commit, serverText(again), msgsText(msgs), ok)
		}
	}
	// Rows that are none, and the group itself.
	rows := wrongRows()
	rows["empty"], rows["its own"] = nil, upTo(5)
	for name, row := range rows {
		if got, msgs, ok := checkChange(t, s, row); ok || !sameServer(got, s) || len(msgs) != 0 {
			t.Error(name, serverText(got), msgsText(msgs), ok)
		}
	}
	for role := range 2 {
		other := threeRoles()[role]
		if got, msgs, ok := checkChange(t, other, []int{1, 2}); ok || !sameServer(got, other) || len(msgs) != 0 {
			t.Error(role, serverText(got), msgsText(msgs), ok)
		}
	}
	// Without its own Id it leads on until that is agreed.
	if got, msgs, ok = checkChange(t, s, []int{6, 7}); !ok || got.Role != 2 || len(msgs) != 6 || got.Commit != 3 {
		t.Error(serverText(got), msgsText(msgs), ok)
	}
}

// The last EntryGroup of the log is to be agreed first.
func TestChangeBehindAnother(t *testing.T) {
	s := leaderOf(2, kept(4, 2, 3, 2, "snap", noop(4), regroup(4, 7, 0), noop(4)), 3, 0)
	for commit := 3; commit <= 6; commit++ {
		s.Commit = commit
		if got, _, ok := checkChange(t, s, []int{2, 3}); ok != (commit >= 5) || ok == sameServer(got, s) {
			t.Error(commit, serverText(got), ok)
		}
	}
	// Of two the last one counts.
	s = leaderOf(2, kept(4, 2, 0, 0, "", regroup(4, 7, 14), noop(4), regroup(4, 14, 0)), 0, 0)
	for commit := range 4 {
		s.Commit = commit
		if _, _, ok := checkChange(t, s, []int{2, 3}); ok != (commit == 3) {
			t.Error(commit, ok)
		}
	}
}

func TestChangeOfOneAlone(t *testing.T) {
	one := leaderOf(2, withGroup(kept(4, 2, 0, 0, "", noop(4)), groupOf([]int{2})), 1, 0)
	// To two: the other has to agree.
	got, msgs, ok := checkChange(t, one, []int{2, 5})
	if !ok || got.Commit != 1 || len(got.K.Log) != 2 || len(msgs) != 1 || msgs[0].To != 5 || msgs[0].Index != 1 {
		t.Error(serverText(got), msgsText(msgs), ok)
	}
	got, msgs = checkHandle(t, got, hadBy(5, 2, true))
	if got.Commit != 2 || len(got.K.Log) != 3 || len(msgs) != 1 || msgs[0].Commit != 2 {
		t.Error(serverText(got), msgsText(msgs))
	}
	// Away from it: it leads until the other has both entries, and follows then.
	got, msgs, ok = checkChange(t, one, []int{6})
	if !ok || got.Role != 2 || len(msgs) != 1 || msgs[0].To != 6 {
		t.Error(serverText(got), msgsText(msgs), ok)
	}
	got, msgs = checkHandle(t, got, hadBy(6, 2, true))
	if got.Role != 2 || got.Commit != 2 || len(msgs) != 1 || len(msgs[0].Entries) != 1 || !sameEntry(got.K.Log[2], regroup(4, 32, 0)) {
		t.Error(serverText(got), msgsText(msgs))
	}
	got, msgs = checkHandle(t, got, hadBy(6, 3, true))
	if got.Role != 0 || got.Commit != 3 || got.Lead != 0 || len(msgs) != 0 {
		t.Error(serverText(got), msgsText(msgs))
	}
	if again, msgs, ok := checkChange(t, one, []int{2}); ok || !sameServer(again, one) || len(msgs) != 0 {
		t.Error("its own group", serverText(again))
	}
}

func TestCompact(t *testing.T) {
	k := kept(4, 2, 3, 2, "snap", noop(2), regroup(3, 7, 14), asked(3, "six"), regroup(4, 14, 0), asked(4, "eight"), noop(4))
	first, joint, settled := groupOf([]int{1, 2, 3}), groupOf([]int{1, 2, 3}, 2, 3, 4), groupOf([]int{2, 3, 4})
	wants := map[int]struct {
		term  int
		group impl.Group
	}{4: {2, first}, 5: {3, joint}, 6: {3, joint}, 7: {4, settled}, 8: {4, settled}}
	leader := withServer(leaderOf(2, k, 8, 6), func(x *impl.Server) { x.Next, x.Elapsed = [8]int{0, 1, 10, 3, 4, 5, 9, 10}, 1 })
	roles := []impl.Server{withServer(serverOf(2, k), func(x *impl.Server) { x.Commit, x.Lead, x.Elapsed = 8, 3, 2 }), withServer(candidateOf(2, k), func(x *impl.Server) { x.Commit = 8 }), leader}
	for role, s := range roles {
		for index := -1; index <= 12; index++ {
			got, ok := checkCompact(t, s, index, []byte("new"))
			c, may := wants[index]
			if ok != may || !ok && !sameServer(got, s) {
				t.Fatalf("role %d, up to %d: %s, %v", role, index, serverText(got), ok)
			}
			if !ok {
				continue
			}
			want := withServer(s, func(x *impl.Server) {
				x.K.Base, x.K.BaseTerm, x.K.Group, x.K.Snap, x.K.Log = index, c.term, c.group, []byte("new"), k.Log[index-3:]
			})
			if !sameServer(got, want) || !sameGroup(impl.GroupOf(got.K), impl.GroupOf(k)) {
				t.Errorf("role %d, up to %d: %s", role, index, serverText(got))
			}
			// Not twice, and on from there.
			if _, ok = checkCompact(t, got, index, []byte("more")); ok {
				t.Errorf("role %d, up to %d twice", role, index)
			}
			if _, ok = checkCompact(t, got, 8, []byte("more")); ok != (index < 8) {
				t.Errorf("role %d, up to %d, then 8", role, index)
			}
		}
		for length, want := range map[int]bool{0: false, 1: true, mostData - 1: true, mostData: true, mostData + 1: false, 100000: false} {
			if got, ok := checkCompact(t, s, 6, []byte(longText(length))); ok != want || !ok && !sameServer(got, s) || ok && len(got.K.Snap) != length {
				t.Errorf("role %d, %d bytes: %v", role, length, ok)
			}
		}
		for _, index := range []int{math.MinInt, math.MaxInt, lastAt, lastAt + 1, 1<<32 + 5} {
			if got, ok := checkCompact(t, s, index, []byte("new")); ok || !sameServer(got, s) {
				t.Errorf("role %d, up to %d: %v", role, index, ok)
			}
		}
		if got, ok := checkCompact(t, s, 6, nil); ok || !sameServer(got, s) {
			t.Errorf("role %d, no snapshot: %v", role, ok)
		}
	}
	// To whom Next is within the snapshot then, that is sent.
	got, _ := checkCompact(t, leader, 8, []byte("new"))
	_, msgs := checkTick(t, got, 0)
	if len(msgs) != 2 || msgs[0].Kind != 5 || msgs[0].Index != 8 || !sameGroup(msgs[0].Group, settled) || msgs[1].Kind != 5 {
		t.Error(msgsText(msgs))
	}
	// At the last index, and of a full log.
	for _, k := range []impl.Keep{kept(4, 2, lastAt-3, 2, "snap", noops(3, 3)...), kept(4, 2, 5, 2, "snap", noops(3, mostLog)...)} {
		s := withServer(serverOf(2, k), func(x *impl.Server) { x.Commit = lastOf(k) })
		if got, ok := checkCompact(t, s, lastOf(k), []byte("new")); !ok || got.K.Base != lastOf(k) || len(got.K.Log) != 0 || got.K.BaseTerm != 3 {
			t.Error(serverText(got), ok)
		}
	}
	if _, ok := checkCompact(t, serverOf(2, kept(0, 0, 0, 0, "")), 0, []byte("new")); ok {
		t.Error("nothing to compact")
	}
}

// settledOnly has one group that is not joint, and no other in its log.
func settledOnly(chance *rand.Rand, k impl.Keep) impl.Keep {
	k.Group = groupOfBits(1+chance.Intn(allRows-1), 0)
	for i, e := range k.Log {
		if e.Kind == 3 {
			k.Log[i] = asked(e.Term, "no group")
		}
	}
	return k
}

// nearMsg is a message that lies near what s has: most are right, and of its term.
func nearMsg(chance *rand.Rand, s impl.Server) impl.Msg {
	near := func(n int) int { return min(lastAt, max(0, n+chance.Intn(5)-2)) }
	m := impl.Msg{Kind: 1 + chance.Intn(5), From: 1 + chance.Intn(mostNodes), To: s.Id, Term: min(lastTerm, max(1, s.K.Term+pickedOf(chance, -1, 0, 0, 0, 0, 1, 2)))}
	index := near(pickedOf(chance, s.K.Base, s.Commit, lastOf(s.K)))
	term, _ := termWanted(s.K, index)
	if chance.Intn(4) == 0 {
		term = chance.Intn(m.Term + 1)
	}
	switch m.Kind {
	case 1:
		m.Index, m.LogTerm = index, min(term, m.Term)
	case 2:
		m.Ok = chance.Intn(5) > 0
	case 3:
		m.Index, m.LogTerm, m.Commit = index, min(term, m.Term), near(pickedOf(chance, s.Commit, lastOf(s.K), 0))
		for at := index + 1; at <= index+chance.Intn(9); at++ {
			e, there := entryAt(s.K, at)
			if !there || chance.Intn(5) == 0 || e.Term > m.Term {
				ahead := m.LogTerm
				if n := len(m.Entries); n > 0 {
					ahead = m.Entries[n-1].Term
				}
				e = someEntry(chance, max(1, ahead+chance.Intn(m.Term-ahead+1)))
			}
			m.Entries = append(m.Entries, e)
		}
	case 4:
		m.Ok, m.Index = chance.Intn(3) > 0, index
	case 5:
		m.Index, m.LogTerm, m.Data, m.Group = index, min(max(term, chance.Intn(2)), m.Term), []byte(longText(chance.Intn(30))), groupOfBits(1+chance.Intn(allRows-1), chance.Intn(allRows))
	}
	return m
}

func TestHandleOfAnyServersAndMessages(t *testing.T) {
	seen := map[string]int{}
	for seed := range 15000 {
		chance := rand.New(rand.NewSource(int64(seed)))
		s := someServer(chance)
		if chance.Intn(6) == 0 {
			s.K = settledOnly(chance, s.K)
		}
		m := nearMsg(chance, s)
		call := quickHandle
		if seed%8 == 0 {
			call = checkHandle
		}
		got, msgs := call(t, s, m)
		if !msgRight(m) {
			seen["wrong"]++
			continue
		}
		sort := "the same"
		if m.Term != s.K.Term {
			sort = map[bool]string{true: "a later", false: "an old"}[m.Term > s.K.Term]
		}
		seen[fmt.Sprint("kind ", m.Kind, " of ", sort, " term")]++
		seen[fmt.Sprint("kind ", m.Kind, " at ", s.Role)]++
		seen[fmt.Sprint(s.Role, " to ", got.Role)]++
		for _, x := range msgs {
			seen[fmt.Sprint("kind ", m.Kind, " by ", x.Kind, " ", x.Ok)]++
		}
		if got.Commit > s.Commit {
			seen[fmt.Sprint("kind ", m.Kind, " agrees")]++
		}
		if len(got.K.Log) > len(s.K.Log) {
			seen[fmt.Sprint("kind ", m.Kind, " grows")]++
		}
		if lastOf(got.K) < lastOf(s.K) {
			seen[fmt.Sprint("kind ", m.Kind, " cuts")]++
		}
	}
	for kind := 1; kind <= 5; kind++ {
		for _, term := range []string{"the same", "a later", "an old"} {
			if what := fmt.Sprint("kind ", kind, " of ", term, " term"); seen[what] < 50 {
				t.Error("hardly ever seen:", what, seen)
			}
		}
		for role := range 3 {
			if what := fmt.Sprint("kind ", kind, " at ", role); seen[what] < 50 {
				t.Error("hardly ever seen:", what, seen)
			}
		}
	}
	for _, what := range []string{"0 to 0", "1 to 0", "1 to 1", "1 to 2", "2 to 0", "2 to 2", "kind 1 by 2 true", "kind 1 by 2 false", "kind 2 by 3 false", "kind 2 by 5 false", "kind 3 by 4 true", "kind 3 by 4 false", "kind 4 by 3 false", "kind 4 by 5 false", "kind 5 by 4 true", "kind 5 by 4 false", "kind 3 agrees", "kind 4 agrees", "kind 5 agrees", "kind 2 grows", "kind 3 grows", "kind 4 grows", "kind 3 cuts", "kind 5 cuts"} {
		if seen[what] < 8 {
			t.Error("hardly ever seen:", what, seen[what])
		}
	}
}

func TestCallsOfAnyServers(t *testing.T) {
	seen := map[string]int{}
	for seed := range 2500 {
		chance := rand.New(rand.NewSource(int64(seed)))
		s := someServer(chance)
		if chance.Intn(3) > 0 && s.Role != 2 {
			s.Role = 2
			for id := 1; id <= mostNodes; id++ {
				s.Next[id], s.Match[id] = s.K.Base+1+chance.Intn(len(s.K.Log)+1), chance.Intn(lastOf(s.K)+1)
			}
		}
		if chance.Intn(2) == 0 {
			s.Commit = lastOf(s.K)
		}
		if chance.Intn(4) == 0 {
			s.K = settledOnly(chance, s.K)
		}
		a, _, ok := checkPropose(t, s, []byte(longText(pickedOf(chance, 0, 1, 30, mostCommand, mostCommand+1))))
		seen[fmt.Sprint("propose ", ok)]++
		b, _, ok := checkChange(t, s, idsOf(chance.Intn(allRows)))
		seen[fmt.Sprint("change ", ok)]++
		_, ok = checkCompact(t, s, s.K.Base+chance.Intn(len(s.K.Log)+3)-1, []byte(longText(chance.Intn(20))))
		seen[fmt.Sprint("compact ", ok)]++
		for _, x := range []impl.Server{a, b} {
			if s.Role == 2 && x.Role == 0 {
				seen["follows"]++
			}
			if lastOf(x.K) > lastOf(s.K)+1 {
				seen["settles"]++
			}
			if x.Commit > s.Commit {
				seen["agrees"]++
			}
		}
	}
	for _, what := range []string{"propose true", "propose false", "change true", "change false", "compact true", "compact false", "follows", "settles", "agrees"} {
		if seen[what] < 30 {
			t.Error("hardly ever seen:", what, seen)
		}
	}
}

// A crowd is some servers, what is on its way between them, and what was seen of them: who led in each term, and what was agreed at each index.
type crowd struct {
	servers []impl.Server
	net     []impl.Msg
	led     map[int]int
	agreed  map[int]impl.Entry
	seen    map[string]int
}

func newCrowd(count int, group []int) *crowd {
	c := &crowd{led: map[int]int{}, agreed: map[int]impl.Entry{}, seen: map[string]int{}}
	for id := 1; id <= count; id++ {
		c.servers = append(c.servers, impl.Restart(id, impl.KeepNew(groupOf(group))))
	}
	return c
}

// becomes takes what a call answered for a server: in no term two lead, and no two disagree on what is agreed.
func (c *crowd) becomes(t *testing.T, got impl.Server, msgs []impl.Msg) {
	t.Helper()
	c.servers[got.Id-1] = got
	c.net = append(c.net, msgs...)
	if got.Role == 2 {
		if who := c.led[got.K.Term]; who != 0 && who != got.Id {
			t.Fatalf("in term %d both %d and %d lead", got.K.Term, who, got.Id)
		}
		c.led[got.K.Term] = got.Id
	}
	for index := got.K.Base + 1; index <= got.Commit; index++ {
		e, _ := entryAt(got.K, index)
		if was, there := c.agreed[index]; there && !sameEntry(was, e) {
			t.Fatalf("two entries %d are agreed: %s and %s", index, entryText(was), entryText(e))
		}
		c.agreed[index] = e
	}
}

// gets delivers the message at a place of the net; it may come once more later.
func (c *crowd) gets(t *testing.T, at int, again bool) {
	t.Helper()
	m := c.net[at]
	if !again {
		c.net = slices.Delete(c.net, at, at+1)
	}
	s := c.servers[m.To-1]
	got, msgs := quickHandle(t, s, m)
	c.seen[fmt.Sprint("kind ", m.Kind)]++
	if s.Role == 2 && got.Role == 0 && got.K.Term == s.K.Term {
		c.seen["stepped down"]++
	}
	if m.Kind == 4 && lastOf(got.K) > lastOf(s.K) {
		c.seen["settled"]++
	}
	c.becomes(t, got, msgs)
}

// asks has a server do what a client asks for, or what it does by itself.
func (c *crowd) asks(t *testing.T, chance *rand.Rand, s impl.Server, mayChange bool) {
	t.Helper()
	switch n := chance.Intn(20); {
	case n < 4:
		data := []byte(fmt.Sprint("data ", chance.Intn(1000)))
		got, msgs, ok := impl.Propose(s, data)
		want, list, done := proposeWanted(s, data)
		if ok != done || !sameServer(got, want) || !sameMsgs(msgs, list) {
			t.Fatalf("Propose(%s): %s, %s, %v", serverText(s), serverText(got), msgsText(msgs), ok)
		}
		checkMoved(t, s, got, msgs, 0)
		c.seen[fmt.Sprint("propose ", ok)]++
		c.becomes(t, got, msgs)
	case n < 6 && mayChange:
		row := idsOf(1 + chance.Intn(1<<len(c.servers)-1))
		got, msgs, ok := impl.Change(s, row)
		want, list, done := changeWanted(s, row)
		if ok != done || !sameServer(got, want) || !sameMsgs(msgs, list) {
			t.Fatalf("Change(%s, %v): %s, %s, %v", serverText(s), row, serverText(got), msgsText(msgs), ok)
		}
		checkMoved(t, s, got, msgs, 0)
		c.seen[fmt.Sprint("change ", ok)]++
		c.becomes(t, got, msgs)
	case n < 8:
		got, ok := impl.Compact(s, s.K.Base+chance.Intn(6), []byte("snap"))
		checkMoved(t, s, got, nil, 0)
		c.seen[fmt.Sprint("compact ", ok)]++
		c.becomes(t, got, nil)
	case n == 8:
		c.becomes(t, impl.Restart(s.Id, s.K), nil)
	default:
		got, msgs := quickTick(t, s, chance.Intn(30))
		c.becomes(t, got, msgs)
	}
}

// Servers moved by any ticks, by messages that are lost, doubled and come in any order, and by clients: terms and what is agreed never fall, a vote is given once a term, so that in no term two lead, and no two disagree on what is agreed; all of it also while groups change.
func TestCrowdsMovedByAnything(t *testing.T) {
	all := map[string]int{}
	for seed := range 60 {
		chance := rand.New(rand.NewSource(int64(seed)))
		count := 1 + seed%5
		c := newCrowd(count, upTo(max(1, count-seed%2)))
		for range 700 {
			if len(c.net) > 0 && chance.Intn(5) > 1 {
				at := chance.Intn(min(len(c.net), 1+seed%8))
				if chance.Intn(12) == 0 {
					c.net = slices.Delete(c.net, at, at+1)
				} else {
					c.gets(t, at, chance.Intn(12) == 0)
				}
				continue
			}
			c.asks(t, chance, c.servers[chance.Intn(count)], seed%3 > 0)
			if len(c.net) > 60 {
				c.net = c.net[20:]
			}
		}
		for what, n := range c.seen {
			all[what] += n
		}
		all["led"] += len(c.led)
		all["agreed"] += len(c.agreed)
	}
	for _, what := range []string{"kind 1", "kind 2", "kind 3", "kind 4", "kind 5", "propose true", "propose false", "change true", "change false", "compact true", "compact false", "settled", "stepped down", "led", "agreed"} {
		if all[what] < 20 {
			t.Error("hardly ever seen:", what, all)
		}
	}
}

// What was answered stays, whatever happens to what was handed in, to another answer, and to the servers that go on.
func TestHandledServersStayApart(t *testing.T) {
	data, row := []byte("data"), []int{1, 2, 3}
	entries := []impl.Entry{{Term: 2, Kind: 2, Data: data}, {Term: 3, Kind: 2, Data: data[:2]}}
	shared := impl.Keep{Term: 3, Vote: 0, Base: 2, BaseTerm: 1, Group: impl.Group{Now: row, Next: row}, Snap: data, Log: entries}
	servers := map[string]impl.Server{
		"follower":  withLists(serverOf(2, shared), row),
		"candidate": withLists(withServer(candidateOf(2, shared), func(s *impl.Server) { s.Votes = row }), row),
		"leader":    withLists(leaderOf(2, shared, 3, 2), row),
		"wrong":     withLists(impl.Server{Id: 8, K: shared}, row),
	}
	msgs := []impl.Msg{}
	for _, term := range []int{1, 3, 5} {
		msgs = append(msgs,
			impl.Msg{Kind: 1, From: 1, To: 2, Term: term, Index: 4, LogTerm: min(term, 3)},
			impl.Msg{Kind: 2, From: 1, To: 2, Term: term, Ok: true},
			impl.Msg{Kind: 3, From: 1, To: 2, Term: term, Index: 4, LogTerm: min(term, 3), Entries: entries[1:]},
			impl.Msg{Kind: 3, From: 1, To: 2, Term: term, Index: 3, LogTerm: min(term, 2), Entries: []impl.Entry{{Term: term, Kind: 2, Data: data}, {Term: term, Kind: 2, Data: data}}},
			impl.Msg{Kind: 4, From: 1, To: 2, Term: term, Index: 2, Ok: true},
			impl.Msg{Kind: 4, From: 1, To: 2, Term: term, Index: 1},
			impl.Msg{Kind: 5, From: 1, To: 2, Term: term, Index: 9, LogTerm: 1, Data: data, Group: impl.Group{Now: row, Next: row}},
		)
	}
	for name, s := range servers {
		for _, m := range msgs {
			checkHandle(t, s, m)
			one, first := impl.Handle(s, m)
			was, wasSent := cloneServer(one), cloneMsgs(first)
			two, second := impl.Handle(s, m)
			over := &memory{}
			over.addServer(two)
			over.addMsgs(second...)
			over.scribble()
			on, _ := impl.Tick(one, 0)
			on, _, _ = impl.Propose(on, data)
			impl.Compact(on, on.Commit, data)
			if !sameServer(one, was) || !sameMsgs(first, wasSent) || string(data) != "data" || !slices.Equal(row, []int{1, 2, 3}) {
				t.Error("memory is shared:", name, msgText(m))
			}
		}
	}
	// One memory as the data and in the server; another one in the snapshot.
	leader := servers["leader"]
	leader.K.Group = impl.Group{Now: row}
	checkPropose(t, leader, data)
	checkChange(t, leader, row[1:])
	checkCompact(t, leader, 3, data)
	if string(data) != "data" || !slices.Equal(row, []int{1, 2, 3}) {
		t.Error(data, row)
	}
}
