package tests

import (
	"bytes"
	"fmt"
	"math"
	"math/rand"
	"slices"
	"strings"
	"testing"

	"loop.example/g00113/impl"
)

const (
	mostNet     = 60
	mostEvents  = 400
	mostHistory = 5000
)

func cloneReplica(r impl.Replica) impl.Replica {
	r.N, r.S, r.F = cloneServer(r.N), cloneState(r.S), cloneFile(r.F)
	return r
}

func cloneCluster(c impl.Cluster) impl.Cluster {
	c.R = slices.Clone(c.R)
	for i, r := range c.R {
		c.R[i] = cloneReplica(r)
	}
	c.Group = cloneGroup(c.Group)
	c.Net = cloneMsgs(c.Net)
	c.Led = slices.Clone(c.Led)
	c.Done = cloneKeep(impl.Keep{Log: c.Done}).Log
	c.Said = slices.Clone(c.Said)
	return c
}

func withCluster(c impl.Cluster, change func(*impl.Cluster)) impl.Cluster {
	c = cloneCluster(c)
	change(&c)
	return c
}

func replicaText(r impl.Replica) string {
	return fmt.Sprintf("{%s, count %d, applied %d, %s, up %v}", serverText(r.N), r.S.Count, r.Applied, fileText(r.F), r.Up)
}

// apartText tells what two clusters differ in, and nothing of those that are the same. Lists without elements and nil are the same.
func apartText(a impl.Cluster, b impl.Cluster) string {
	lines := []string{}
	look := func(what string, id int, same bool, text func(c impl.Cluster) string) {
		if !same {
			lines = append(lines, fmt.Sprintf("%s %d: %s and %s", what, id, text(a), text(b)))
		}
	}
	look("R", 0, len(a.R) == len(b.R), func(c impl.Cluster) string { return fmt.Sprint(len(c.R)) })
	for i := range min(len(a.R), len(b.R)) {
		r, q := a.R[i], b.R[i]
		look("server", i+1, sameServer(r.N, q.N), func(c impl.Cluster) string { return serverText(c.R[i].N) })
		look("state", i+1, isSameState(r.S, q.S), func(c impl.Cluster) string { return stateTexts(c.R[i].S) })
		look("applied", i+1, r.Applied == q.Applied, func(c impl.Cluster) string { return fmt.Sprint(c.R[i].Applied) })
		look("file", i+1, sameFile(r.F, q.F), func(c impl.Cluster) string { return fileText(c.R[i].F) })
		look("up", i+1, r.Up == q.Up, func(c impl.Cluster) string { return fmt.Sprint(c.R[i].Up) })
	}
	look("Group", 0, sameGroup(a.Group, b.Group), func(c impl.Cluster) string { return fmt.Sprint(c.Group) })
	look("Net", 0, sameMsgs(a.Net, b.Net), func(c impl.Cluster) string { return msgsText(c.Net) })
	look("Led", 0, slices.Equal(a.Led, b.Led), func(c impl.Cluster) string { return fmt.Sprint(c.Led) })
	look("Done", 0, slices.EqualFunc(a.Done, b.Done, sameEntry), func(c impl.Cluster) string { return fmt.Sprint(c.Done) })
	look("Said", 0, slices.Equal(a.Said, b.Said), func(c impl.Cluster) string { return fmt.Sprintf("%q", c.Said) })
	look("Split", 0, a.Split == b.Split, func(c impl.Cluster) string { return fmt.Sprint(c.Split) })
	return strings.Join(lines, "\n")
}

func sameCluster(a impl.Cluster, b impl.Cluster) bool {
	return apartText(a, b) == ""
}

func eventText(e impl.Event) string {
	return fmt.Sprintf("{kind %d, at %d, to %d, coin %d, %d bytes, %v}", e.Kind, e.At, e.To, e.Coin, len(e.Data), e.Next)
}

// clusterRight reads the chapter's list one by one.
func clusterRight(c impl.Cluster) bool {
	if len(c.R) == 0 || len(c.R) > mostNodes || !groupRight(c.Group) {
		return false
	}
	for i, r := range c.R {
		if !serverRight(r.N) || r.N.Id != i+1 || !stateRight(r.S) || r.Applied < 0 || r.Applied > lastAt || !fileRight(r.F) {
			return false
		}
	}
	for _, m := range c.Net {
		if !msgRight(m) {
			return false
		}
	}
	return len(c.Net) <= mostNet && len(c.Led) <= mostHistory && len(c.Done) <= mostHistory && len(c.Said) == len(c.Done)
}

// snapWanted takes the zero state of what is no image: the two did not agree then.
func snapWanted(c impl.Cluster, id int) impl.Cluster {
	r := &c.R[id-1]
	s, ok := stateOfBytes(r.N.K.Snap)
	if !ok {
		s, c.Split = impl.State{}, true
	}
	r.S, r.Applied = s, r.N.K.Base
	return c
}

// appliedWanted goes on by one entry, or by a snapshot.
func appliedWanted(c impl.Cluster, id int) impl.Cluster {
	r := &c.R[id-1]
	if r.Applied < r.N.K.Base {
		return snapWanted(c, id)
	}
	r.Applied++
	e, there := entryAt(r.N.K, r.Applied)
	if !there {
		panic("no entry to apply")
	}
	said := ""
	if e.Kind == 2 {
		command, ok := commandOfBytes(e.Data)
		if !ok {
			command = impl.Command{}
		}
		r.S, said = stepWanted(r.S, command)
	}
	switch place := r.Applied - 1; {
	case place == len(c.Done):
		c.Done, c.Said = append(c.Done, e), append(c.Said, said)
	case place > len(c.Done):
		c.Split = true
	case !sameEntry(c.Done[place], e) || c.Said[place] != said:
		c.Split = true
	}
	return c
}

func becomesWanted(c impl.Cluster, id int, s impl.Server, msgs []impl.Msg) impl.Cluster {
	r := &c.R[id-1]
	f, ok := fileAddWanted(r.F, recordsWanted(r.N.K, s.K))
	if !ok {
		r.Up = false
		return c
	}
	r.F = impl.File{Bytes: f.Bytes, Sure: len(f.Bytes)}
	if s.Role == 2 && r.N.Role != 2 {
		c.Led = append(c.Led, [2]int{s.K.Term, id})
	}
	r.N = s
	for c.R[id-1].Applied < s.Commit {
		c = appliedWanted(c, id)
	}
	for _, m := range msgs {
		if len(c.Net) < mostNet {
			c.Net = append(c.Net, m)
		}
	}
	return c
}

func startWanted(c impl.Cluster, id int) impl.Cluster {
	r := &c.R[id-1]
	k, end := redoWanted(impl.Keep{Group: c.Group}, r.F.Bytes)
	r.F = impl.File{Bytes: r.F.Bytes[:end], Sure: min(r.F.Sure, end)}
	r.N, r.S, r.Applied, r.Up = restartWanted(id, k), impl.State{Desk: impl.Desk{Next: 1}}, 0, true
	if k.Base > 0 {
		return snapWanted(c, id)
	}
	return c
}

func crashWanted(r *impl.Replica, keep int) {
	r.F, r.Up = fileCrashWanted(r.F, keep), false
}

// atWanted is what an event at a replica that is there, and up or down as it must be, does to c, which has lists of its own.
func atWanted(c impl.Cluster, e impl.Event) (impl.Cluster, bool) {
	r := &c.R[e.At-1]
	switch e.Kind {
	case 1:
		s, msgs := tickWanted(r.N, e.Coin)
		return becomesWanted(c, e.At, s, msgs), true
	case 5:
		crashWanted(r, 0)
		return c, true
	case 7:
		return startWanted(c, e.At), true
	case 8:
		s, msgs, ok := proposeWanted(r.N, e.Data)
		if !ok {
			return c, false
		}
		return becomesWanted(c, e.At, s, msgs), true
	case 9:
		s, msgs, ok := changeWanted(r.N, e.Next)
		if !ok {
			return c, false
		}
		return becomesWanted(c, e.At, s, msgs), true
	}
	s, ok := compactWanted(r.N, r.Applied, imageWanted(r.S))
	if !ok {
		return c, false
	}
	return becomesWanted(c, e.At, s, nil), true
}

// toWanted is what an event at a message that is there does to c, which has lists of its own.
func toWanted(c impl.Cluster, e impl.Event) (impl.Cluster, bool) {
	m := c.Net[e.To]
	isUp := m.To <= len(c.R) && c.R[m.To-1].Up
	left := slices.Concat(c.Net[:e.To], c.Net[e.To+1:])
	switch {
	case e.Kind == 3 || e.Kind == 2 && !isUp:
		c.Net = left
	case e.Kind == 2:
		c.Net = left
		s, msgs := handleWanted(c.R[m.To-1].N, m)
		return becomesWanted(c, m.To, s, msgs), true
	case e.Kind == 4 && len(c.Net) < mostNet:
		c.Net = append(c.Net, m)
	case e.Kind == 6 && isUp:
		c.Net = left
		r := &c.R[m.To-1]
		s, _ := handleWanted(r.N, m)
		r.F, _ = fileAddWanted(r.F, recordsWanted(r.N.K, s.K))
		crashWanted(r, e.Coin)
	default:
		return c, false
	}
	return c, true
}

// stepDone is one event of a play: whether the cluster is right was asked ahead.
func stepDone(c impl.Cluster, e impl.Event) (impl.Cluster, bool) {
	own, ok := cloneCluster(c), false
	switch e.Kind {
	case 1, 5, 7, 8, 9, 10:
		if isWithin(e.At, 1, len(c.R)) && c.R[e.At-1].Up == (e.Kind != 7) {
			own, ok = atWanted(own, e)
		}
	case 2, 3, 4, 6:
		if isWithin(e.To, 0, len(c.Net)-1) {
			own, ok = toWanted(own, e)
		}
	}
	if !ok {
		return c, false
	}
	return cloneCluster(own), true
}

func doWanted(c impl.Cluster, e impl.Event) (impl.Cluster, bool) {
	if !clusterRight(c) {
		return c, false
	}
	return stepDone(c, e)
}

func playWanted(c impl.Cluster, list []impl.Event) impl.Cluster {
	if !clusterRight(c) {
		return c
	}
	for i, e := range list {
		if i < mostEvents {
			c, _ = stepDone(c, e)
		}
	}
	return c
}

func chiefWanted(c impl.Cluster) int {
	chief, greatest := 0, 0
	for id := len(c.R); id > 0; id-- {
		r := c.R[id-1]
		if r.Up && r.N.Role == 2 && (chief == 0 || r.N.K.Term >= greatest) {
			chief, greatest = id, r.N.K.Term
		}
	}
	return chief
}

// A clusterMemory is all lists of clusters that are handed in or answered, spare room too.
type clusterMemory struct {
	memory
	replicas [][]impl.Replica
	nets     [][]impl.Msg
	leds     [][][2]int
	saids    [][]string
	states   []impl.State
}

func (m *clusterMemory) add(c impl.Cluster) {
	m.replicas = append(m.replicas, c.R)
	for _, r := range c.R[:cap(c.R)] {
		m.addServer(r.N)
		m.states = append(m.states, r.S)
		m.bytes = append(m.bytes, r.F.Bytes)
	}
	m.addGroup(c.Group)
	m.nets = append(m.nets, c.Net)
	m.addMsgs(c.Net[:cap(c.Net)]...)
	m.leds = append(m.leds, c.Led)
	m.addLog(c.Done)
	m.saids = append(m.saids, c.Said)
}

// text tells the lists within by the memory that they have, and their owners by all else.
func (m *clusterMemory) text() string {
	words := []string{m.memory.text()}
	for _, list := range m.replicas {
		for _, r := range list[:cap(list)] {
			n := r.N
			words = append(words, fmt.Sprint(n.Id, n.Role, n.Lead, n.Commit, n.Next, n.Match, n.Elapsed, n.Wait, n.K.Term, n.K.Vote, n.K.Base, n.K.BaseTerm, r.Applied, r.F.Sure, r.Up, r.S.Count))
		}
	}
	for _, list := range m.nets {
		for _, x := range list[:cap(list)] {
			words = append(words, fmt.Sprint(x.Kind, x.From, x.To, x.Term, x.Index, x.LogTerm, x.Commit, x.Ok))
		}
	}
	for i, list := range m.leds {
		words = append(words, fmt.Sprint(list[:cap(list)], m.saids[i][:cap(m.saids[i])]))
	}
	for _, s := range m.states {
		words = append(words, fmt.Sprint(s.Plan.Pools[:cap(s.Plan.Pools)], s.Plan.Blocks[:cap(s.Plan.Blocks)], s.Book.Leases[:cap(s.Book.Leases)], s.Desk.Sessions[:cap(s.Desk.Sessions)]))
	}
	return strings.Join(words, "|")
}

// markedOnly is marked of what may be compared.
func markedOnly[T comparable](lists [][]T, mark func(i int) T) bool {
	return marked(lists, mark, func(a T, b T) bool { return a == b })
}

// scribbleAll writes over all of it, the lists within first, and tells whether no two of the lists share any.
func (m *clusterMemory) scribbleAll() bool {
	pools, blocks, leases, sessions := [][]impl.Pool{}, [][]impl.Block{}, [][]impl.Lease{}, [][]impl.Session{}
	for _, s := range m.states {
		pools, blocks = append(pools, s.Plan.Pools), append(blocks, s.Plan.Blocks)
		leases, sessions = append(leases, s.Book.Leases), append(sessions, s.Desk.Sessions)
	}
	oks := []bool{
		m.scribble(),
		markedOnly(pools, func(i int) impl.Pool { return impl.Pool{Bits: -1000 - i} }),
		markedOnly(blocks, func(i int) impl.Block { return impl.Block{Owner: fmt.Sprint(i)} }),
		markedOnly(leases, func(i int) impl.Lease { return impl.Lease{Token: -1000 - i} }),
		markedOnly(sessions, func(i int) impl.Session { return impl.Session{Id: -1000 - i} }),
		markedOnly(m.leds, func(i int) [2]int { return [2]int{-1000 - i, i} }),
		markedOnly(m.saids, func(i int) string { return fmt.Sprint("said ", i) }),
		marked(m.nets, func(i int) impl.Msg { return impl.Msg{Kind: -1000 - i} }, func(a impl.Msg, b impl.Msg) bool { return a.Kind == b.Kind }),
		marked(m.replicas, func(i int) impl.Replica { return impl.Replica{Applied: -1000 - i} }, func(a impl.Replica, b impl.Replica) bool { return a.Applied == b.Applied }),
	}
	return !slices.Contains(oks, false)
}

// roomyCluster has spare room behind each list, also those within; what stands there would go on with it.
func roomyCluster(c impl.Cluster) impl.Cluster {
	c.R = slices.Concat(c.R, []impl.Replica{{N: serverOf(len(c.R)+1, kept(1, 1, 0, 0, "")), S: impl.StateNew(), Up: true}})[:len(c.R)]
	for i, r := range c.R {
		c.R[i].N = roomyServer(r.N)
		c.R[i].S, _ = withRoom(r.S)
		c.R[i].F.Bytes = roomy(r.F.Bytes, frameOf(voteInner(9, 1)))
	}
	c.Group.Now = roomyRow(c.Group.Now)[:len(c.Group.Now)]
	c.Group.Next = roomyRow(c.Group.Next)[:len(c.Group.Next)]
	c.Net = slices.Concat(c.Net, []impl.Msg{voteMsg(), snapMsg()})[:len(c.Net)]
	for i, m := range c.Net {
		c.Net[i] = roomyMsg(m)
	}
	c.Led = slices.Concat(c.Led, [][2]int{{1, 1}})[:len(c.Led)]
	c.Done = roomyKeep(impl.Keep{Log: c.Done}).Log
	c.Said = slices.Concat(c.Said, []string{"session 1"})[:len(c.Said)]
	return c
}

// askedCluster hands c in with spare room behind its lists, and fails if the call changes them or the room, answers any of their memory or one memory twice, or answers otherwise when it is called again behind an answer that was written over.
func askedCluster(t *testing.T, c impl.Cluster, call func(impl.Cluster) impl.Cluster) impl.Cluster {
	t.Helper()
	given, own := roomyCluster(c), &clusterMemory{}
	own.add(given)
	ahead := own.text()
	first := call(given)
	if own.text() != ahead {
		t.Fatal("the cluster was changed, or the room behind")
	}
	answer, theirs := cloneCluster(first), &clusterMemory{}
	theirs.add(first)
	if !theirs.scribbleAll() {
		t.Fatal("two lists of what was answered have one memory")
	}
	if own.text() != ahead {
		t.Fatal("what was answered has the memory of what was handed in")
	}
	second := call(given)
	own.scribbleAll()
	if !sameCluster(second, answer) {
		t.Fatal("first this, then that:", apartText(answer, second))
	}
	return answer
}

// askedEvents hands events in with spare room behind their lists, and fails if the call changes them, or answers their memory.
func askedEvents(t *testing.T, list []impl.Event, call func([]impl.Event) impl.Cluster) impl.Cluster {
	t.Helper()
	own, given := &memory{}, slices.Concat(list, []impl.Event{{Kind: impl.EvCrash, At: 1}})
	for i, e := range given {
		given[i].Data = roomy(e.Data, []byte("spare room"))
		given[i].Next = roomyRow(e.Next)[:len(e.Next)]
		own.bytes, own.rows = append(own.bytes, given[i].Data), append(own.rows, given[i].Next)
	}
	text := func() string {
		words := []string{own.text()}
		for _, e := range given {
			words = append(words, eventText(e))
		}
		return strings.Join(words, "|")
	}
	ahead := text()
	answer := call(given[:len(list)])
	if text() != ahead {
		t.Fatal("the events were changed, or the room behind")
	}
	was := cloneCluster(answer)
	own.scribble()
	clear(given)
	if !sameCluster(answer, was) {
		t.Fatal("what was answered has the events' memory:", apartText(was, answer))
	}
	return answer
}

// checkStays is the half of promise 16 that holds of every cluster: what was applied, and who led, stays, and so does whether all agreed; the replicas and the first group are the same ones.
func checkStays(t *testing.T, c impl.Cluster, got impl.Cluster) {
	t.Helper()
	if len(got.Done) < len(c.Done) || !slices.EqualFunc(got.Done[:len(c.Done)], c.Done, sameEntry) {
		t.Fatalf("Done was %v, is %v", c.Done, got.Done)
	}
	if len(got.Said) < len(c.Said) || !slices.Equal(got.Said[:len(c.Said)], c.Said) || len(got.Said)-len(c.Said) != len(got.Done)-len(c.Done) {
		t.Fatalf("Said was %q, is %q", c.Said, got.Said)
	}
	if len(got.Led) < len(c.Led) || !slices.Equal(got.Led[:len(c.Led)], c.Led) || c.Split && !got.Split {
		t.Fatalf("Led was %v, is %v; Split was %v, is %v", c.Led, got.Led, c.Split, got.Split)
	}
	if len(got.R) != len(c.R) || !sameGroup(got.Group, c.Group) {
		t.Fatal("other replicas, or another group")
	}
}

func sameDone(t *testing.T, c impl.Cluster, e impl.Event, got impl.Cluster, ok bool) {
	t.Helper()
	want, done := doWanted(c, e)
	if apart := apartText(got, want); ok != done || apart != "" {
		t.Fatalf("Do(.., %s) = %v, not %v; got and wanted: %s", eventText(e), ok, done, apart)
	}
	if !ok && !sameCluster(got, c) {
		t.Fatalf("Do(.., %s) is false and changes: %s", eventText(e), apartText(c, got))
	}
	checkStays(t, c, got)
}

func checkDo(t *testing.T, c impl.Cluster, e impl.Event) (impl.Cluster, bool) {
	t.Helper()
	ok := false
	got := askedCluster(t, c, func(x impl.Cluster) impl.Cluster {
		return askedEvents(t, []impl.Event{e}, func(list []impl.Event) (answer impl.Cluster) {
			answer, ok = impl.Do(x, list[0])
			return answer
		})
	})
	sameDone(t, c, e, got, ok)
	return got, ok
}

// quickDo asks the same without a look at the memory.
func quickDo(t *testing.T, c impl.Cluster, e impl.Event) (impl.Cluster, bool) {
	t.Helper()
	got, ok := impl.Do(c, e)
	sameDone(t, c, e, got, ok)
	return got, ok
}

// done does what must do something.
func done(t *testing.T, c impl.Cluster, list ...impl.Event) impl.Cluster {
	t.Helper()
	for _, e := range list {
		ok := false
		if c, ok = checkDo(t, c, e); !ok {
			t.Fatal("does nothing:", eventText(e))
		}
	}
	return c
}

// refused does what must do nothing.
func refused(t *testing.T, what string, c impl.Cluster, list ...impl.Event) {
	t.Helper()
	for _, e := range list {
		if got, ok := checkDo(t, c, e); ok || !sameCluster(got, c) {
			t.Errorf("%s: %s: %v, %s", what, eventText(e), ok, apartText(c, got))
		}
	}
}

func checkPlay(t *testing.T, c impl.Cluster, list []impl.Event) impl.Cluster {
	t.Helper()
	got := askedCluster(t, c, func(x impl.Cluster) impl.Cluster {
		return askedEvents(t, list, func(given []impl.Event) impl.Cluster { return impl.Play(x, given) })
	})
	if apart := apartText(got, playWanted(c, list)); apart != "" {
		t.Fatalf("Play of %d events; got and wanted: %s", len(list), apart)
	}
	checkStays(t, c, got)
	return got
}

// checkLook asks what only looks: ClusterOk and Chief.
func checkRight(t *testing.T, c impl.Cluster) bool {
	t.Helper()
	ok, chief := false, 0
	askedCluster(t, c, func(x impl.Cluster) impl.Cluster {
		ok, chief = impl.ClusterOk(x), impl.Chief(x)
		return impl.Cluster{}
	})
	if ok != clusterRight(c) || chief != chiefWanted(c) {
		t.Fatalf("ClusterOk is %v, Chief is %d, not %v, %d", ok, chief, clusterRight(c), chiefWanted(c))
	}
	return ok
}

func tick(id int, coin int) impl.Event {
	return impl.Event{Kind: impl.EvTick, At: id, Coin: coin}
}

func ticks(id int, count int) []impl.Event {
	return slices.Repeat([]impl.Event{tick(id, 0)}, count)
}

// at is an event at a replica that needs nothing else, to one of a message.
func at(kind int, id int) impl.Event {
	return impl.Event{Kind: kind, At: id}
}

func to(kind int, place int) impl.Event {
	return impl.Event{Kind: kind, To: place}
}

func propose(id int, data []byte) impl.Event {
	return impl.Event{Kind: impl.EvPropose, At: id, Data: data}
}

func changeTo(id int, next ...int) impl.Event {
	return impl.Event{Kind: impl.EvChange, At: id, Next: next}
}

func newCluster(t *testing.T, n int) impl.Cluster {
	t.Helper()
	c, ok := impl.ClusterNew(n, upTo(n))
	if !ok || !clusterRight(c) {
		t.Fatal("no cluster of", n)
	}
	return c
}

// quiet delivers what is first until nothing is left.
func quiet(t *testing.T, c impl.Cluster) impl.Cluster {
	t.Helper()
	for len(c.Net) > 0 {
		c, _ = quickDo(t, c, to(impl.EvDeliver, 0))
	}
	return c
}

// beaten is behind a heartbeat that all have heard of.
func beaten(t *testing.T, c impl.Cluster, id int) impl.Cluster {
	t.Helper()
	for range heartTicks {
		c, _ = quickDo(t, c, tick(id, 0))
	}
	return quiet(t, c)
}

// ledBy is a cluster of n in which this one leads, and all have applied its first entry.
func ledBy(t *testing.T, n int, id int) impl.Cluster {
	t.Helper()
	c := newCluster(t, n)
	for range waitTicks {
		c, _ = quickDo(t, c, tick(id, 0))
	}
	c = beaten(t, quiet(t, c), id)
	if impl.Chief(c) != id || len(c.Done) != 1 || c.R[n-1].Applied != 1 {
		t.Fatal("nobody leads:", c.Done)
	}
	return c
}

func lineBytes(t *testing.T, s string) []byte {
	t.Helper()
	return bytesWanted(commandOf(t, s))
}

// asks proposes commands at who leads, one behind the other, and has all hear of them.
func asks(t *testing.T, c impl.Cluster, lines ...string) impl.Cluster {
	t.Helper()
	for _, s := range lines {
		chief := impl.Chief(c)
		c = beaten(t, quiet(t, done(t, c, propose(chief, lineBytes(t, s)))), chief)
	}
	return c
}

func someLines() []string {
	return []string{
		"open now=4",
		"add-pool session=1 seq=1 now=5 at=10.0.0.0/24 bits=26",
		"carve session=1 seq=2 now=5 at=10.0.0.0/24 owner=ann",
		"grant session=1 seq=3 now=6 at=10.0.0.0/26 owner=ann span=90",
	}
}

func TestClusterConstants(t *testing.T) {
	got := []int{impl.MaxNet, impl.MaxEvents, impl.EvTick, impl.EvDeliver, impl.EvDrop, impl.EvDouble, impl.EvCrash, impl.EvTear, impl.EvStart, impl.EvPropose, impl.EvChange, impl.EvCompact}
	if !slices.Equal(got, []int{60, 400, 1, 2, 3, 4, 5, 6, 7, 8, 9, 10}) {
		t.Error(got)
	}
}

// checkNew hands the group in with spare room behind it.
func checkNew(t *testing.T, n int, group []int, want bool) impl.Cluster {
	t.Helper()
	room := roomyRow(group)
	c, ok := impl.ClusterNew(n, room[:len(group)])
	if !slices.Equal(room, roomyRow(group)) {
		t.Fatalf("ClusterNew(%d, %v) changed the group, or what stands behind", n, group)
	}
	expected := impl.Cluster{}
	if want {
		expected.Group = groupOf(group)
		for id := 1; id <= n; id++ {
			k := impl.Keep{Group: groupOf(group)}
			expected.R = append(expected.R, impl.Replica{N: impl.Server{Id: id, K: k, Wait: waitTicks}, S: impl.State{Desk: impl.Desk{Next: 1}}, Up: true})
		}
	}
	answer := cloneCluster(c)
	if apart := apartText(answer, expected); ok != want || apart != "" {
		t.Fatalf("ClusterNew(%d, %v): %v, got and wanted: %s", n, group, ok, apart)
	}
	if checkRight(t, answer) != want {
		t.Fatalf("ClusterNew(%d, %v) is not right", n, group)
	}
	scribbleRow(room)
	if !sameCluster(c, answer) {
		t.Fatalf("ClusterNew(%d, %v) has the group's memory", n, answer.Group.Now)
	}
	own := &clusterMemory{}
	own.add(c)
	if !own.scribbleAll() {
		t.Fatalf("ClusterNew(%d, %v) has one memory twice", n, group)
	}
	return answer
}

func TestClusterNewOfEachCount(t *testing.T) {
	for _, n := range []int{math.MinInt, -7, -1, 0, 1, 2, 3, 4, 5, 6, 7, 8, 9, 256 + 3, 1<<32 + 3, math.MaxInt} {
		checkNew(t, n, []int{1}, n >= 1 && n <= mostNodes)
		checkNew(t, n, upTo(max(1, min(n, mostNodes))), n >= 1 && n <= mostNodes)
		checkNew(t, n, nil, false)
		checkNew(t, n, upTo(mostNodes+1), false)
	}
}

func TestClusterNewOfGroups(t *testing.T) {
	for _, c := range []struct {
		n     int
		group []int
		want  bool
	}{
		{3, nil, false},
		{3, []int{}, false},
		{3, []int{1}, true},
		{3, []int{3}, true},
		{3, []int{1, 3}, true},
		{3, []int{1, 2, 3}, true},
		{3, []int{2, 1}, false},
		{3, []int{1, 1}, false},
		{3, []int{1, 2, 2}, false},
		{3, []int{3, 2, 1}, false},
		{3, []int{0}, false},
		{3, []int{0, 1, 2}, false},
		{3, []int{-1, 1}, false},
		{3, []int{4}, false},
		{3, []int{1, 4}, false},
		{3, []int{1, 2, 3, 4}, false},
		{3, []int{7}, false},
		{7, []int{7}, true},
		{7, upTo(7), true},
		{7, []int{8}, false},
		{6, []int{7}, false},
		{1, []int{1}, true},
		{1, []int{2}, false},
		{1, []int{math.MaxInt}, false},
		{1, []int{math.MinInt}, false},
		{2, slices.Repeat([]int{1}, 1000), false},
	} {
		checkNew(t, c.n, c.group, c.want)
	}
	counts := map[bool]int{}
	eachShortRow([]int{-1, 0, 1, 2, 3, 4, 8}, 3, func(row []int) {
		for n := range 5 {
			want := n > 0 && len(row) > 0 && rowRight(row) && row[len(row)-1] <= n
			checkNew(t, n, row, want)
			counts[want]++
		}
	})
	if counts[true] < 20 || counts[false] < 1000 {
		t.Error(counts)
	}
}

// midway is a right cluster of three with something in each of its lists: 3 is down, what it missed is compacted away at 1, and messages are on their way.
func midway(t *testing.T) impl.Cluster {
	t.Helper()
	c := asks(t, ledBy(t, 3, 1), someLines()...)
	c = done(t, c, at(impl.EvCrash, 3))
	c = asks(t, c, "open now=7", "time now=8")
	c = done(t, c, at(impl.EvCompact, 1), propose(1, lineBytes(t, "open now=9")), tick(1, 0), tick(1, 0))
	if !checkRight(t, c) || len(c.Net) != 4 || len(c.Done) != 7 || len(c.R[0].N.K.Snap) == 0 {
		t.Fatal("not midway:", msgsText(c.Net), c.Said)
	}
	return c
}

func noMsgs(count int) []impl.Msg {
	return slices.Repeat([]impl.Msg{{Kind: impl.MsgVoted, From: 2, To: 1, Term: 1}}, count)
}

// rightChanges leave a cluster right: each thing at its bounds.
func rightChanges() map[string]func(*impl.Cluster) {
	return map[string]func(*impl.Cluster){
		"nothing":           func(c *impl.Cluster) {},
		"one replica":       func(c *impl.Cluster) { c.R = c.R[:1] },
		"Applied 0":         func(c *impl.Cluster) { c.R[1].Applied = 0 },
		"Applied greatest":  func(c *impl.Cluster) { c.R[2].Applied = lastAt },
		"all down":          func(c *impl.Cluster) { c.R[0].Up, c.R[1].Up, c.R[2].Up = false, false, false },
		"another state":     func(c *impl.Cluster) { c.R[1].S = impl.StateNew() },
		"a file of most":    func(c *impl.Cluster) { c.R[0].F = longFile(mostFile, 5) },
		"no files":          func(c *impl.Cluster) { c.R[0].F, c.R[1].F, c.R[2].F = impl.File{}, impl.File{}, impl.File{} },
		"a group of others": func(c *impl.Cluster) { c.Group = groupOf([]int{5, 6}, 7) },
		"no messages":       func(c *impl.Cluster) { c.Net = nil },
		"most messages":     func(c *impl.Cluster) { c.Net = noMsgs(mostNet) },
		"a message to 7":    func(c *impl.Cluster) { c.Net[0].To = 7 },
		"none led":          func(c *impl.Cluster) { c.Led = nil },
		"most led":          func(c *impl.Cluster) { c.Led = make([][2]int, mostHistory) },
		"odd ones led":      func(c *impl.Cluster) { c.Led = [][2]int{{-1, 99}, {0, 0}} },
		"nothing done":      func(c *impl.Cluster) { c.Done, c.Said = nil, nil },
		"most done":         func(c *impl.Cluster) { c.Done, c.Said = make([]impl.Entry, mostHistory), make([]string, mostHistory) },
		"odd things done":   func(c *impl.Cluster) { c.Done[0] = impl.Entry{Term: -1, Kind: 9, Data: []byte("x")} },
		"split":             func(c *impl.Cluster) { c.Split = true },
		"a new server":      func(c *impl.Cluster) { c.R[1].N = serverOf(2, kept(0, 0, 0, 0, "")) },
		"seven": func(c *impl.Cluster) {
			for id := 4; id <= mostNodes; id++ {
				c.R = append(c.R, impl.Replica{N: serverOf(id, kept(0, 0, 0, 0, "")), S: impl.StateNew()})
			}
		},
	}
}

// wrongChanges make a cluster wrong, each by one thing alone.
func wrongChanges(t *testing.T) map[string]func(*impl.Cluster) {
	t.Helper()
	list := map[string]func(*impl.Cluster){
		"no replica":            func(c *impl.Cluster) { c.R = nil },
		"empty replicas":        func(c *impl.Cluster) { c.R = []impl.Replica{} },
		"a zero replica":        func(c *impl.Cluster) { c.R[1] = impl.Replica{} },
		"the replicas' order":   func(c *impl.Cluster) { c.R[0], c.R[1] = c.R[1], c.R[0] },
		"the first one missing": func(c *impl.Cluster) { c.R = c.R[1:] },
		"one twice":             func(c *impl.Cluster) { c.R[2] = cloneReplica(c.R[1]) },
		"Applied -1":            func(c *impl.Cluster) { c.R[1].Applied = -1 },
		"Applied least":         func(c *impl.Cluster) { c.R[1].Applied = math.MinInt },
		"Applied one more":      func(c *impl.Cluster) { c.R[2].Applied = lastAt + 1 },
		"Applied greatest":      func(c *impl.Cluster) { c.R[0].Applied = math.MaxInt },
		"one message more":      func(c *impl.Cluster) { c.Net = noMsgs(mostNet + 1) },
		"many messages":         func(c *impl.Cluster) { c.Net = noMsgs(1000) },
		"a zero message":        func(c *impl.Cluster) { c.Net[3] = impl.Msg{} },
		"a wrong message":       func(c *impl.Cluster) { c.Net[0].Term = 0 },
		"a wrong message, last": func(c *impl.Cluster) { c.Net[3].To = 8 },
		"last of most is wrong": func(c *impl.Cluster) { c.Net = noMsgs(mostNet); c.Net[mostNet-1].Index = 1 },
		"one led more":          func(c *impl.Cluster) { c.Led = make([][2]int, mostHistory+1) },
		"one done more": func(c *impl.Cluster) {
			c.Done, c.Said = make([]impl.Entry, mostHistory+1), make([]string, mostHistory+1)
		},
		"one done more than said": func(c *impl.Cluster) { c.Done = append(c.Done, noop(1)) },
		"one said more":           func(c *impl.Cluster) { c.Said = append(c.Said, "") },
		"one said fewer":          func(c *impl.Cluster) { c.Said = c.Said[1:] },
		"nothing said":            func(c *impl.Cluster) { c.Said = nil },
		"nothing done":            func(c *impl.Cluster) { c.Done = nil },
		"eight": func(c *impl.Cluster) {
			for id := 4; id <= mostNodes+1; id++ {
				c.R = append(c.R, impl.Replica{N: serverOf(id, kept(0, 0, 0, 0, "")), S: impl.StateNew()})
			}
		},
	}
	for place := range 3 {
		for _, id := range []int{math.MinInt, -1, 0, 1, 2, 3, 4, 8, math.MaxInt} {
			if id != place+1 {
				list[fmt.Sprint("the Id of ", place+1, ": ", id)] = func(c *impl.Cluster) { c.R[place].N.Id = id }
			}
		}
		list[fmt.Sprint("more agreed than there is at ", place+1)] = func(c *impl.Cluster) { c.R[place].N.Commit = 900 }
		list[fmt.Sprint("the wait of ", place+1)] = func(c *impl.Cluster) { c.R[place].N.Wait = -1 }
		list[fmt.Sprint("the group that is kept at ", place+1)] = func(c *impl.Cluster) { c.R[place].N.K.Group = impl.Group{} }
		for name, f := range map[string]impl.File{"sure": fileOf("abc", 4), "below": fileOf("abc", -1), "long": longFile(mostFile+1, 0)} {
			list[fmt.Sprint("the file of ", place+1, ", ", name)] = func(c *impl.Cluster) { c.R[place].F = f }
		}
	}
	for name, s := range wrongStates(t) {
		list["state: "+name] = func(c *impl.Cluster) { c.R[1].S = s }
	}
	for name, g := range wrongGroups() {
		list["Group "+name] = func(c *impl.Cluster) { c.Group = g }
	}
	return list
}

func TestClusterOkOfEachThing(t *testing.T) {
	c := midway(t)
	for name, change := range rightChanges() {
		if !checkRight(t, withCluster(c, change)) {
			t.Error("refused:", name)
		}
	}
	for name, change := range wrongChanges(t) {
		if checkRight(t, withCluster(c, change)) {
			t.Error("taken:", name)
		}
	}
	if checkRight(t, impl.Cluster{}) {
		t.Error("the zero one is taken")
	}
}

// oneOfEach are events of each kind that do something midway.
func oneOfEach(t *testing.T) []impl.Event {
	t.Helper()
	return []impl.Event{
		tick(1, 3), tick(2, -1), to(impl.EvDeliver, 0), to(impl.EvDeliver, 1), to(impl.EvDrop, 2), to(impl.EvDouble, 3), at(impl.EvCrash, 1), {Kind: impl.EvTear, Coin: 30},
		at(impl.EvStart, 3), propose(1, lineBytes(t, "time now=20")), propose(1, nil), changeTo(1, 1, 2), at(impl.EvCompact, 2),
	}
}

// Of each kind, and of each thing that is wrong in the cluster: c comes back and false, also of a play.
func TestDoOfWrongClusters(t *testing.T) {
	c, list := midway(t), oneOfEach(t)
	for _, e := range list {
		done(t, c, e)
	}
	for name, change := range wrongChanges(t) {
		wrong := withCluster(c, change)
		refused(t, name, wrong, list[len(name)%len(list)])
		for _, e := range list {
			if got, ok := quickDo(t, wrong, e); ok || !sameCluster(got, wrong) {
				t.Errorf("%s: %s: %v, %s", name, eventText(e), ok, apartText(wrong, got))
			}
		}
		if got := impl.Play(wrong, list); !sameCluster(got, wrong) {
			t.Errorf("%s: Play: %s", name, apartText(wrong, got))
		}
	}
	refused(t, "the zero one", impl.Cluster{}, list...)
	wrong := withCluster(c, func(c *impl.Cluster) { c.R[1].Applied = -1 })
	if got := checkPlay(t, wrong, list); !sameCluster(got, wrong) {
		t.Error(apartText(got, wrong))
	}
	if got := checkPlay(t, impl.Cluster{}, list); !sameCluster(got, impl.Cluster{}) {
		t.Error(apartText(got, impl.Cluster{}))
	}
}

func TestDoOfRightClustersAtTheirBounds(t *testing.T) {
	c := midway(t)
	for name, change := range rightChanges() {
		right := withCluster(c, change)
		for _, e := range oneOfEach(t) {
			quickDo(t, right, e)
		}
		checkDo(t, right, oneOfEach(t)[len(name)%13])
	}
}

func TestDoOfNoKind(t *testing.T) {
	c := midway(t)
	for _, kind := range []int{math.MinInt, -2, -1, 0, 11, 12, 256 + 1, 1<<32 + 1, math.MaxInt} {
		refused(t, "no kind", c, impl.Event{Kind: kind}, impl.Event{Kind: kind, At: 1, To: 1, Coin: 1, Data: []byte("x"), Next: []int{1}})
	}
}

// farOff are no Ids of three replicas, and no places of four messages but 0 and 1.
func farOff() []int {
	return []int{math.MinInt, -256, -1, 4, 5, 7, 8, 257, 1<<32 + 1, math.MaxInt}
}

func TestDoNothing(t *testing.T) {
	c := midway(t)
	for _, id := range append(farOff(), 0) {
		for _, kind := range []int{impl.EvTick, impl.EvCrash, impl.EvStart, impl.EvCompact} {
			refused(t, "no replica", c, at(kind, id))
		}
		refused(t, "no replica", c, propose(id, []byte("x")), changeTo(id, 1, 2))
	}
	for _, place := range farOff() {
		for _, kind := range []int{impl.EvDeliver, impl.EvDrop, impl.EvDouble, impl.EvTear} {
			refused(t, "no message", c, impl.Event{Kind: kind, To: place, Coin: 9})
		}
	}
	for _, kind := range []int{impl.EvDeliver, impl.EvDrop, impl.EvDouble, impl.EvTear} {
		refused(t, "no messages", withCluster(c, func(c *impl.Cluster) { c.Net = nil }), to(kind, 0), to(kind, -1), to(kind, 1))
	}
	refused(t, "down", c, tick(3, 0), at(impl.EvCrash, 3), at(impl.EvCompact, 3), propose(3, []byte("x")), changeTo(3, 1, 2))
	downLeads := withCluster(c, func(c *impl.Cluster) { c.R[0].Up = false })
	refused(t, "down, a Leader", downLeads, tick(1, 0), at(impl.EvCrash, 1), at(impl.EvCompact, 1), propose(1, []byte("x")), changeTo(1, 1, 2))
	refused(t, "up", c, at(impl.EvStart, 1), at(impl.EvStart, 2))
	if m := c.Net[1]; m.To != 3 {
		t.Fatal("not to 3:", msgText(m))
	}
	refused(t, "a tear at one that is down", c, impl.Event{Kind: impl.EvTear, To: 1, Coin: 9})
	for id := 4; id <= mostNodes; id++ {
		away := withCluster(c, func(c *impl.Cluster) { c.Net[1].To = id })
		refused(t, "a tear at one that is not there", away, impl.Event{Kind: impl.EvTear, To: 1, Coin: 9})
	}
}

func TestProposeChangeAndCompactThatAreFalse(t *testing.T) {
	c := midway(t)
	long := []byte(longText(mostCommand + 1))
	refused(t, "no Leader", c, propose(2, []byte("x")), changeTo(2, 1, 2))
	refused(t, "too long", c, propose(1, long))
	for name, row := range wrongRows() {
		refused(t, "Change of "+name, c, changeTo(1, row...))
	}
	refused(t, "Change of none, and of what is", c, changeTo(1), changeTo(1, 1, 2, 3))
	// A group that is not agreed yet is not changed once more.
	joint := done(t, c, changeTo(1, 1, 2))
	refused(t, "twice", joint, changeTo(1, 1, 3), changeTo(1, 1, 2))
	full := withCluster(ledBy(t, 3, 1), func(c *impl.Cluster) { c.R[0].N.K.Log = noops(1, mostLog) })
	refused(t, "full", full, propose(1, nil), changeTo(1, 1, 2))
	done(t, withCluster(full, func(c *impl.Cluster) { c.R[0].N.K.Log = noops(1, mostLog-1) }), propose(1, nil))
	// What is applied is in the snapshot already; nothing is applied; more is applied than agreed.
	refused(t, "compacted", done(t, c, at(impl.EvCompact, 2)), at(impl.EvCompact, 2))
	refused(t, "new", newCluster(t, 3), at(impl.EvCompact, 1), at(impl.EvCompact, 2))
	for _, applied := range []int{0, 6, 8, 9, lastAt} {
		other := withCluster(c, func(c *impl.Cluster) { c.R[0].Applied = applied })
		refused(t, fmt.Sprint("applied ", applied), other, at(impl.EvCompact, 1))
	}
	for applied := range 9 {
		other := withCluster(c, func(c *impl.Cluster) { c.R[1].Applied = applied })
		if _, ok := checkDo(t, other, at(impl.EvCompact, 2)); ok != (applied >= 1 && applied <= 7) {
			t.Error("2 applied", applied, ok)
		}
	}
}

func TestTickBecomes(t *testing.T) {
	c := newCluster(t, 3)
	for n := 1; n < waitTicks; n++ {
		got := done(t, c, tick(2, 4))
		want := withCluster(c, func(c *impl.Cluster) { c.R[1].N.Elapsed = n })
		if !sameCluster(got, want) {
			t.Error(n, apartText(got, want))
		}
		c = got
	}
	got := done(t, c, tick(2, 4))
	want := withCluster(c, func(c *impl.Cluster) {
		n := &c.R[1].N
		n.K.Term, n.K.Vote, n.Role, n.Votes, n.Elapsed, n.Wait = 1, 2, 1, []int{2}, 0, 10
		record := frameOf(voteInner(1, 2))
		c.R[1].F = impl.File{Bytes: record, Sure: len(record)}
		c.Net = []impl.Msg{{Kind: 1, From: 2, To: 1, Term: 1}, {Kind: 1, From: 2, To: 3, Term: 1}}
	})
	if !sameCluster(got, want) {
		t.Error(apartText(got, want))
	}
	// It votes for itself in the next term, too; what is kept goes behind what is there.
	for range 10 {
		got, _ = quickDo(t, got, tick(2, 0))
	}
	records := framesOf(voteInner(1, 2), voteInner(2, 2))
	if !sameFile(got.R[1].F, impl.File{Bytes: records, Sure: len(records)}) || len(got.Net) != 4 {
		t.Error(fileText(got.R[1].F), msgsText(got.Net))
	}
}

// What was not sure is, once records are, also where there are none to write.
func TestWhatIsWrittenIsSure(t *testing.T) {
	c := withCluster(newCluster(t, 3), func(c *impl.Cluster) { c.R[1].F = fileOf("abcdef", 2) })
	got := done(t, c, tick(2, 0))
	if !sameFile(got.R[1].F, fileOf("abcdef", 6)) {
		t.Error(fileText(got.R[1].F))
	}
	got = done(t, c, ticks(2, waitTicks)...)
	want := append([]byte("abcdef"), frameOf(voteInner(1, 2))...)
	if !sameFile(got.R[1].F, impl.File{Bytes: want, Sure: len(want)}) || !sameFile(got.R[0].F, impl.File{}) {
		t.Error(fileText(got.R[1].F))
	}
}

func TestDeliver(t *testing.T) {
	c := done(t, newCluster(t, 3), ticks(1, waitTicks)...)
	for place, id := range []int{2, 3} {
		got := done(t, c, to(impl.EvDeliver, place))
		record := frameOf(voteInner(1, 1))
		left := c.Net[1-place]
		if len(got.Net) != 2 || !sameMsg(got.Net[0], left) || !sameMsg(got.Net[1], impl.Msg{Kind: 2, From: id, To: 1, Term: 1, Ok: true}) {
			t.Error(place, msgsText(got.Net))
		}
		if r := got.R[id-1]; r.N.K.Vote != 1 || r.N.K.Term != 1 || !sameFile(r.F, impl.File{Bytes: record, Sure: len(record)}) {
			t.Error(place, replicaText(r))
		}
	}
	// To one that is down, and to one that is not there: it is gone, and that is all.
	for place := range 2 {
		down := withCluster(c, func(c *impl.Cluster) { c.R[1].Up, c.R[2].Up = false, false })
		got := done(t, down, to(impl.EvDeliver, place))
		want := withCluster(down, func(c *impl.Cluster) { c.Net = slices.Delete(c.Net, place, place+1) })
		if !sameCluster(got, want) {
			t.Error(apartText(got, want))
		}
		for id := 4; id <= mostNodes; id++ {
			away := withCluster(c, func(c *impl.Cluster) { c.Net[place].To = id })
			got = done(t, away, to(impl.EvDeliver, place))
			want = withCluster(away, func(c *impl.Cluster) { c.Net = slices.Delete(c.Net, place, place+1) })
			if !sameCluster(got, want) {
				t.Error(apartText(got, want))
			}
		}
	}
	// What is passed over is gone, too, and makes all sure that was written.
	old := withCluster(c, func(c *impl.Cluster) { c.R[0].N.K.Term = 5; c.Net[0] = impl.Msg{Kind: 2, From: 2, To: 1, Term: 1} })
	got := done(t, old, to(impl.EvDeliver, 0))
	if want := withCluster(old, func(c *impl.Cluster) { c.Net = c.Net[1:] }); !sameCluster(got, want) {
		t.Error(apartText(got, want))
	}
}

func TestDropAndDouble(t *testing.T) {
	c := midway(t)
	for place, m := range c.Net {
		got := done(t, c, to(impl.EvDrop, place))
		want := withCluster(c, func(c *impl.Cluster) { c.Net = slices.Delete(c.Net, place, place+1) })
		if !sameCluster(got, want) {
			t.Error("drop", place, apartText(got, want))
		}
		got = done(t, c, to(impl.EvDouble, place))
		want = withCluster(c, func(c *impl.Cluster) { c.Net = append(c.Net, m) })
		if !sameCluster(got, want) {
			t.Error("double", place, apartText(got, want))
		}
	}
	for count := mostNet - 2; count <= mostNet; count++ {
		room := withCluster(c, func(c *impl.Cluster) { c.Net = noMsgs(count); c.Net[7] = snapMsg() })
		got, ok := checkDo(t, room, to(impl.EvDouble, 7))
		if ok != (count < mostNet) || ok && (len(got.Net) != count+1 || !sameMsg(got.Net[count], snapMsg())) {
			t.Error(count, ok, len(got.Net))
		}
		done(t, room, to(impl.EvDrop, 7))
	}
}

// Of what is sent only what there is room for goes behind the net; the others are lost, and all else is done.
func TestNetIsFull(t *testing.T) {
	stands := done(t, newCluster(t, 5), ticks(3, waitTicks-1)...)
	for count := mostNet - 6; count <= mostNet; count++ {
		c := withCluster(stands, func(c *impl.Cluster) { c.Net = noMsgs(count) })
		got := done(t, c, tick(3, 0))
		sent := min(4, mostNet-count)
		if len(got.Net) != count+sent || got.R[2].N.K.Vote != 3 || !sameMsgs(got.Net[:count], c.Net) {
			t.Error(count, len(got.Net))
		}
		for i, m := range got.Net[count:] {
			if m.Kind != 1 || m.From != 3 || m.To != []int{1, 2, 4, 5}[i] {
				t.Error(count, i, msgText(m))
			}
		}
	}
	// What is delivered makes room for one.
	led := done(t, done(t, newCluster(t, 5), ticks(1, waitTicks)...), to(impl.EvDeliver, 0), to(impl.EvDeliver, 0))
	full := withCluster(led, func(c *impl.Cluster) { c.Net = append(c.Net[2:], noMsgs(mostNet-2)...) })
	got := done(t, full, to(impl.EvDeliver, 0))
	if got.R[0].N.Role != 1 || len(got.Net) != mostNet-1 {
		t.Error(replicaText(got.R[0]), len(got.Net))
	}
	full = withCluster(got, func(c *impl.Cluster) { c.Net = append(c.Net, noMsgs(1)...) })
	got = done(t, full, to(impl.EvDeliver, 0))
	if got.R[0].N.Role != 2 || len(got.Net) != mostNet || got.Net[mostNet-1].Kind != 3 || got.Net[mostNet-1].To != 2 || len(got.Led) != 1 {
		t.Error(replicaText(got.R[0]), len(got.Net), msgText(got.Net[mostNet-1]))
	}
}

// fullUpTo has files in which just room bytes have place.
func fullUpTo(c impl.Cluster, room int) impl.Cluster {
	return withCluster(c, func(c *impl.Cluster) {
		for i := range c.R {
			c.R[i].F = longFile(mostFile-room, mostFile-room)
		}
	})
}

// A file that takes no more: the replica is down, and nothing else of it is done, not even in what it has in mind.
func TestFileTakesNoMore(t *testing.T) {
	stands := done(t, newCluster(t, 3), ticks(1, waitTicks-1)...)
	asked := done(t, stands, tick(1, 0))
	led := withCluster(asks(t, ledBy(t, 3, 1), someLines()...), func(c *impl.Cluster) { c.R[1].Up = false })
	for name, x := range map[string]struct {
		c    impl.Cluster
		id   int
		gone int
		e    impl.Event
	}{
		"EvTick":    {stands, 1, 0, tick(1, 0)},
		"EvDeliver": {asked, 2, 1, to(impl.EvDeliver, 0)},
		"EvPropose": {led, 1, 0, propose(1, []byte("x"))},
		"EvChange":  {led, 1, 0, changeTo(1, 1, 2)},
		"EvCompact": {led, 3, 0, at(impl.EvCompact, 3)},
	} {
		moved := done(t, x.c, x.e)
		size := len(moved.R[x.id-1].F.Bytes) - len(x.c.R[x.id-1].F.Bytes)
		if size == 0 {
			t.Fatal(name, "writes nothing")
		}
		for _, room := range []int{0, 1, size - 1} {
			c := fullUpTo(x.c, room)
			got, ok := quickDo(t, c, x.e)
			want := withCluster(c, func(c *impl.Cluster) { c.Net, c.R[x.id-1].Up = c.Net[x.gone:], false })
			if !ok || !sameCluster(got, want) {
				t.Errorf("%s, room for %d of %d: %s", name, room, size, apartText(got, want))
			}
		}
		checkDo(t, fullUpTo(x.c, size-1), x.e)
		got, ok := quickDo(t, fullUpTo(x.c, size), x.e)
		if !ok || len(got.R[x.id-1].F.Bytes) != mostFile || got.R[x.id-1].F.Sure != mostFile || !got.R[x.id-1].Up || !sameServer(got.R[x.id-1].N, moved.R[x.id-1].N) {
			t.Errorf("%s, room for all: %s", name, replicaText(got.R[x.id-1]))
		}
	}
	// Where there is nothing to write, a full file is no hindrance.
	c := fullUpTo(led, 0)
	if got := done(t, c, tick(1, 0), tick(1, 0)); !got.R[0].Up || len(got.Net) != 2 {
		t.Error(replicaText(got.R[0]), msgsText(got.Net))
	}
	// What is not sure is not made sure by what does not fit.
	unsure := withCluster(fullUpTo(stands, 3), func(c *impl.Cluster) { c.R[0].F.Sure = 7 })
	if got := done(t, unsure, tick(1, 0)); got.R[0].F.Sure != 7 || got.R[0].Up {
		t.Error(replicaText(got.R[0]))
	}
}

func TestTearAtAFileThatTakesNoMore(t *testing.T) {
	c := done(t, newCluster(t, 3), ticks(1, waitTicks)...)
	for _, room := range []int{0, 1, 5} {
		full := fullUpTo(c, room)
		for _, coin := range []int{-1, 0, 1, 5, 1000} {
			got, ok := quickDo(t, full, impl.Event{Kind: impl.EvTear, Coin: coin})
			want := withCluster(full, func(c *impl.Cluster) { c.Net, c.R[1].Up = c.Net[1:], false })
			if !ok || !sameCluster(got, want) {
				t.Error(room, coin, apartText(got, want))
			}
		}
	}
}

// Of what is written then only a beginning stays: of the coin's many bytes, at most all.
func TestTearKeepsABeginning(t *testing.T) {
	c := done(t, newCluster(t, 3), ticks(1, waitTicks)...)
	record := frameOf(voteInner(1, 1))
	coins := []int{math.MinInt, -100, -1, 100, mostFile, 1 << 32, math.MaxInt}
	for coin := range len(record) + 3 {
		coins = append(coins, coin)
	}
	for _, ahead := range []impl.File{{}, {Bytes: framesOf(voteInner(0, 3)), Sure: len(framesOf(voteInner(0, 3)))}} {
		c := withCluster(c, func(c *impl.Cluster) {
			c.R[1].F = ahead
			c.R[1].N.K.Vote = 3 * min(1, ahead.Sure)
		})
		for _, coin := range coins {
			got := done(t, c, impl.Event{Kind: impl.EvTear, To: 0, Coin: coin})
			stays := max(0, min(coin, len(record)))
			want := withCluster(c, func(c *impl.Cluster) {
				b := slices.Concat(ahead.Bytes, record[:stays])
				c.Net, c.R[1].Up, c.R[1].F = c.Net[1:], false, impl.File{Bytes: b, Sure: len(b)}
			})
			if !sameCluster(got, want) {
				t.Fatal(coin, apartText(got, want))
			}
			// What comes of it: the vote is there, or it never was, and may be given to another.
			got = done(t, got, at(impl.EvStart, 2))
			whole := stays == len(record)
			file := slices.Concat(ahead.Bytes, record[:map[bool]int{true: stays}[whole]])
			if k := got.R[1].N.K; (k.Vote == 1) != whole || k.Term != map[bool]int{true: 1}[whole] || !sameFile(got.R[1].F, impl.File{Bytes: file, Sure: len(file)}) || !got.R[1].Up {
				t.Fatal(coin, replicaText(got.R[1]))
			}
		}
	}
}

// A tear in the midst of many records: what is whole stays, the torn one is gone with the start, and what was not sure ahead counts, too.
func TestTearAmongRecords(t *testing.T) {
	c := done(t, newCluster(t, 3), ticks(1, waitTicks)...)
	c = done(t, c, to(impl.EvDeliver, 0), to(impl.EvDrop, 0), to(impl.EvDeliver, 0))
	c = done(t, c, propose(1, []byte("one")), propose(1, []byte("two")), to(impl.EvDrop, 0), to(impl.EvDrop, 0))
	place := slices.IndexFunc(c.Net, func(m impl.Msg) bool { return m.To == 3 && len(m.Entries) == 3 })
	if place < 0 {
		t.Fatal(msgsText(c.Net))
	}
	inners := [][]byte{voteInner(1, 0), entryInner(1, noop(1)), entryInner(2, asked(1, "one")), entryInner(3, asked(1, "two"))}
	all := framesOf(inners...)
	ends := []int{0}
	for i := range inners {
		ends = append(ends, len(framesOf(inners[:i+1]...)))
	}
	for coin := -1; coin <= len(all)+1; coin++ {
		torn := done(t, c, impl.Event{Kind: impl.EvTear, To: place, Coin: coin})
		if want := all[:max(0, min(coin, len(all)))]; !bytes.Equal(torn.R[2].F.Bytes, want) || torn.R[2].F.Sure != len(want) || len(torn.Net) != len(c.Net)-1 {
			t.Fatal(coin, fileText(torn.R[2].F))
		}
		if !sameServer(torn.R[2].N, c.R[2].N) {
			t.Fatal(coin, "it has in mind what it did not do:", serverText(torn.R[2].N))
		}
		got := done(t, torn, at(impl.EvStart, 3))
		whole := 0
		for _, end := range ends[1:] {
			if end <= coin {
				whole++
			}
		}
		r := got.R[2]
		if !bytes.Equal(r.F.Bytes, all[:ends[whole]]) || r.F.Sure != ends[whole] || len(r.N.K.Log) != max(0, whole-1) || r.N.K.Term != min(1, whole) {
			t.Fatal(coin, replicaText(r))
		}
		if r.Applied != 0 || !isSameState(r.S, impl.StateNew()) || r.N.Role != 0 || !sameServer(r.N, impl.Restart(3, r.N.K)) {
			t.Fatal(coin, replicaText(r))
		}
	}
	unsure := withCluster(c, func(c *impl.Cluster) { c.R[2].F = fileOf("abcdef", 2) })
	for coin, want := range map[int]string{-3: "ab", 0: "ab", 1: "abc", 4: "abcdef", 5: "abcdef" + string(all[:1]), 1000: "abcdef" + string(all)} {
		got := done(t, unsure, impl.Event{Kind: impl.EvTear, To: place, Coin: coin})
		if !sameFile(got.R[2].F, fileOf(want, len(want))) {
			t.Error(coin, fileText(got.R[2].F))
		}
	}
}

func TestCrash(t *testing.T) {
	c := midway(t)
	for id := 1; id <= 2; id++ {
		got := done(t, c, at(impl.EvCrash, id))
		want := withCluster(c, func(c *impl.Cluster) { c.R[id-1].Up = false })
		if !sameCluster(got, want) {
			t.Error(apartText(got, want))
		}
		for sure := 0; sure <= 6; sure++ {
			unsure := withCluster(c, func(c *impl.Cluster) { c.R[id-1].F = fileOf("abcdef", sure) })
			got = done(t, unsure, impl.Event{Kind: impl.EvCrash, At: id, Coin: 3, To: 1})
			want = withCluster(c, func(c *impl.Cluster) { c.R[id-1].Up, c.R[id-1].F = false, fileOf("abcdef"[:sure], sure) })
			if !sameCluster(got, want) {
				t.Error(sure, apartText(got, want))
			}
		}
	}
}

// down has replica 2 down, with this file.
func down(t *testing.T, f impl.File) impl.Cluster {
	t.Helper()
	return withCluster(newCluster(t, 3), func(c *impl.Cluster) { c.R[1].Up, c.R[1].F = false, f })
}

func TestStartOfFiles(t *testing.T) {
	vote, first, second := frameOf(voteInner(3, 1)), frameOf(entryInner(1, noop(2))), frameOf(entryInner(2, asked(3, "x")))
	whole := slices.Concat(vote, first, second)
	for name, x := range map[string]struct {
		b       []byte
		records int
	}{
		"nothing":           {nil, 0},
		"whole":             {whole, 3},
		"no frame":          {[]byte("abc"), 0},
		"a torn tail":       {append(slices.Clone(whole), first[:len(first)-1]...), 3},
		"a torn number":     {append(slices.Clone(whole), 128), 3},
		"another sum":       {append(slices.Clone(whole), append(slices.Clone(first[:len(first)-1]), first[len(first)-1]^1)...), 3},
		"no record":         {append(slices.Clone(whole), frameOf([]byte{9})...), 3},
		"an entry too far":  {append(slices.Clone(whole), frameOf(entryInner(9, noop(3)))...), 3},
		"more behind wrong": {slices.Concat(vote, []byte{0}, first), 1},
		"wrong at first":    {slices.Concat(first, vote), 0},
		"torn in the midst": {slices.Concat(vote, first[:3], second), 1},
	} {
		k := impl.Keep{Group: groupOf(upTo(3))}
		if x.records > 0 {
			k.Term, k.Vote = 3, 1
		}
		if x.records == 3 {
			k.Log = []impl.Entry{noop(2), asked(3, "x")}
		}
		end := []int{0, len(vote), len(vote) + len(first), len(whole)}[x.records]
		for _, sure := range []int{0, end / 2, end, (end + len(x.b)) / 2, len(x.b)} {
			c := down(t, impl.File{Bytes: x.b, Sure: sure})
			c.R[1].N.Role, c.R[1].N.K.Vote, c.R[1].Applied = 1, 2, 7
			got := done(t, c, at(impl.EvStart, 2))
			want := withCluster(c, func(c *impl.Cluster) {
				c.R[1] = impl.Replica{N: serverOf(2, k), S: impl.StateNew(), F: impl.File{Bytes: x.b[:end], Sure: min(sure, end)}, Up: true}
			})
			if !sameCluster(got, want) {
				t.Errorf("%s, %d sure: %s", name, sure, apartText(got, want))
			}
		}
	}
	// A group at first that is none of the replicas', and a joint one: what is kept begins with it.
	for _, g := range []impl.Group{groupOf([]int{6}), groupOf([]int{1, 2}, 2, 3)} {
		c := withCluster(down(t, impl.File{Bytes: vote}), func(c *impl.Cluster) { c.Group = g })
		if got := done(t, c, at(impl.EvStart, 2)); !sameGroup(got.R[1].N.K.Group, g) || got.R[1].N.K.Vote != 1 {
			t.Error(replicaText(got.R[1]))
		}
	}
}

func TestStartWithASnapshot(t *testing.T) {
	state := smallState(t)
	for name, x := range map[string]struct {
		snap  []byte
		state impl.State
		split bool
	}{
		"a state":       {imageWanted(state), state, false},
		"a new state":   {imageWanted(impl.StateNew()), impl.StateNew(), false},
		"a full state":  {imageWanted(fullState()), fullState(), false},
		"no state":      {[]byte("junk"), impl.State{}, true},
		"a cut state":   {imageWanted(state)[:9], impl.State{}, true},
		"a longer one":  {append(imageWanted(state), 0), impl.State{}, true},
		"the zero one":  {imageAny(impl.State{}), impl.State{}, true},
		"nothing in it": {nil, impl.State{}, true},
	} {
		inners := [][]byte{voteInner(4, 0), snapInner(30, 2, []byte{3, 0}, x.snap), entryInner(31, asked(4, "x"))}
		c := down(t, impl.File{Bytes: framesOf(inners...)})
		got := done(t, c, at(impl.EvStart, 2))
		want := withCluster(c, func(c *impl.Cluster) {
			k := impl.Keep{Term: 4, Base: 30, BaseTerm: 2, Group: groupOf([]int{1, 2}), Snap: x.snap, Log: []impl.Entry{asked(4, "x")}}
			c.R[1].N, c.R[1].S, c.R[1].Applied, c.R[1].Up, c.Split = serverOf(2, k), x.state, 30, true, x.split
		})
		if !sameCluster(got, want) {
			t.Errorf("%s: %s", name, apartText(got, want))
		}
		if checkRight(t, got) == x.split {
			t.Error(name, "right:", !x.split)
		}
		// It stays split, also where the next one is a state.
		split := withCluster(c, func(c *impl.Cluster) { c.Split = true })
		if got = done(t, split, at(impl.EvStart, 2)); !got.Split {
			t.Error(name, "not split any more")
		}
	}
	// The zero state is not right, so nothing is done to such a cluster any more, one by one; a play asks at its beginning alone.
	c := down(t, impl.File{Bytes: framesOf(voteInner(4, 0), snapInner(30, 2, []byte{3, 0}, []byte("junk")))})
	split := done(t, c, at(impl.EvStart, 2))
	refused(t, "split", split, tick(1, 0), at(impl.EvCrash, 2), at(impl.EvCompact, 2))
	got := checkPlay(t, c, []impl.Event{at(impl.EvStart, 2), tick(2, 0), tick(1, 0)})
	want := withCluster(split, func(c *impl.Cluster) {
		c.R[0].N.Elapsed, c.R[1].N.Elapsed = 1, 1
		c.R[1].F.Sure = len(c.R[1].F.Bytes)
	})
	if !sameCluster(got, want) {
		t.Error(apartText(got, want))
	}
}

// From a compaction on, through a crash and a start, and by what is sent to one that has nothing.
func TestSnapshotsOfAClustersOwn(t *testing.T) {
	c := asks(t, ledBy(t, 3, 1), someLines()...)
	before := c.R[0].S
	c = done(t, c, at(impl.EvCompact, 1))
	if k := c.R[0].N.K; k.Base != 5 || len(k.Log) != 0 || !bytes.Equal(k.Snap, imageWanted(before)) || len(c.Net) != 0 || c.R[0].Applied != 5 {
		t.Error(replicaText(c.R[0]))
	}
	c = done(t, c, at(impl.EvCrash, 1), at(impl.EvStart, 1))
	if r := c.R[0]; r.Applied != 5 || r.N.Commit != 5 || r.N.Role != 0 || !isSameState(r.S, before) || c.Split {
		t.Error(replicaText(r))
	}
	// One that lost its file gets the snapshot, and what stands behind.
	c = withCluster(c, func(c *impl.Cluster) { c.R[2].F, c.R[2].Up = impl.File{}, false })
	c = done(t, c, at(impl.EvStart, 3))
	c = quiet(t, done(t, c, ticks(1, waitTicks)...))
	c = asks(t, beaten(t, c, 1), "time now=50", "open now=51")
	for _, r := range c.R {
		if r.Applied != 8 || !isSameState(r.S, c.R[0].S) {
			t.Error(replicaText(r))
		}
	}
	if c.R[2].N.K.Base != 5 || c.Split || c.Said[7] != "session 2" || c.R[1].N.K.Base != 0 {
		t.Error(replicaText(c.R[2]), c.Said)
	}
}

// pending is one replica that leads alone, with this log all of which is agreed, and that has applied so many of its entries.
func pending(t *testing.T, k impl.Keep, applied int) impl.Cluster {
	t.Helper()
	k.Group = groupOf([]int{1})
	s := leaderOf(1, k, lastOf(k), lastOf(k))
	return impl.Cluster{R: []impl.Replica{{N: s, S: impl.StateNew(), Applied: applied, Up: true}}, Group: groupOf([]int{1})}
}

func TestWhatIsApplied(t *testing.T) {
	k := kept(3, 1, 0, 0, "",
		noop(1),
		asked(1, string(lineBytes(t, "open now=4"))),
		asked(1, "no command"),
		regroup(2, 1, 0),
		asked(2, ""),
		asked(2, string(lineBytes(t, "add-pool session=1 seq=1 now=5 at=10.0.0.0/24 bits=26"))),
		asked(3, string(lineBytes(t, "add-pool session=1 seq=1 now=6 at=10.0.0.0/24 bits=26"))),
		asked(3, string(lineBytes(t, "close session=4 now=6"))),
		asked(3, string(append(lineBytes(t, "open now=4"), 0))),
		noop(3),
	)
	said := []string{"", "session 1", "error form", "", "error form", "ok", "ok", "error session", "error form", ""}
	c := pending(t, k, 0)
	got := done(t, c, tick(1, 0))
	if !slices.EqualFunc(got.Done, k.Log, sameEntry) || !slices.Equal(got.Said, said) || got.Split || got.R[0].Applied != 10 {
		t.Fatal(got.Done, got.Said, got.Split)
	}
	if s := got.R[0].S; s.Count != 4 || s.Book.Now != 6 || len(s.Plan.Pools) != 1 || len(s.Desk.Sessions) != 1 {
		t.Error(s)
	}
	// Only up to what is agreed, and no further than there was: what is applied more is not taken back.
	for commit := range 11 {
		part := withCluster(c, func(c *impl.Cluster) {
			c.R[0].N.Role, c.R[0].N.Next, c.R[0].N.Match, c.R[0].N.Commit = 0, [8]int{}, [8]int{}, commit
		})
		part.R[0].N.Wait = 9
		got := done(t, part, tick(1, 0))
		if len(got.Done) != commit || !slices.Equal(got.Said, said[:commit]) || got.R[0].Applied != commit {
			t.Error(commit, got.Said)
		}
		for _, applied := range []int{commit, commit + 1, 10, lastAt} {
			more := withCluster(part, func(c *impl.Cluster) { c.R[0].Applied = applied })
			if got = done(t, more, tick(1, 0)); applied >= commit && (len(got.Done) != 0 || got.R[0].Applied != applied || got.Split) {
				t.Error(commit, applied, got.Done)
			}
		}
	}
	// Done has all of it already, as another applied it first.
	for have := range 11 {
		other := withCluster(c, func(c *impl.Cluster) {
			c.Done, c.Said = cloneKeep(impl.Keep{Log: k.Log[:have]}).Log, slices.Clone(said[:have])
		})
		if got := done(t, other, tick(1, 0)); !slices.EqualFunc(got.Done, k.Log, sameEntry) || !slices.Equal(got.Said, said) || got.Split {
			t.Error(have, got.Said, got.Split)
		}
	}
}

// At each index one thing is otherwise in what Done or Said has: both stay, and that they did not agree is told, for good.
func TestWhatWasAppliedOtherwise(t *testing.T) {
	k := kept(3, 1, 0, 0, "", noop(1), asked(1, string(lineBytes(t, "open now=4"))), regroup(2, 1, 0), asked(2, "x"))
	said := []string{"", "session 1", "", "error form"}
	c := withCluster(pending(t, k, 0), func(c *impl.Cluster) {
		c.Done, c.Said = append(cloneKeep(k).Log, noop(3)), append(slices.Clone(said), "")
	})
	if got := done(t, c, tick(1, 0)); got.Split || len(got.Done) != 5 || got.R[0].Applied != 4 {
		t.Fatal(got.Split, got.Done)
	}
	for index := 1; index <= 5; index++ {
		for name, change := range map[string]func(e *impl.Entry, said *string){
			"term":       func(e *impl.Entry, said *string) { e.Term++ },
			"kind":       func(e *impl.Entry, said *string) { e.Kind++ },
			"data":       func(e *impl.Entry, said *string) { e.Data = append([]byte("y"), e.Data...) },
			"other data": func(e *impl.Entry, said *string) { e.Data = append(e.Data, 0) },
			"said":       func(e *impl.Entry, said *string) { *said += "." },
			"all":        func(e *impl.Entry, said *string) { *e, *said = impl.Entry{}, "?" },
		} {
			other := withCluster(c, func(c *impl.Cluster) { change(&c.Done[index-1], &c.Said[index-1]) })
			got := done(t, other, tick(1, 0))
			if got.Split != (index <= 4) || got.R[0].Applied != 4 || !slices.Equal(got.Said, other.Said) || got.R[0].S.Count != 1 {
				t.Error(index, name, got.Split, got.Said)
			}
			// What was applied ahead is not looked at any more.
			behind := withCluster(other, func(c *impl.Cluster) { c.R[0].Applied = index })
			if got = done(t, behind, tick(1, 0)); name != "said" && index != 1 && index != 2 && got.Split {
				t.Error(index, name, "looked at again")
			}
			already := withCluster(c, func(c *impl.Cluster) { c.Split = true })
			if got = done(t, already, tick(1, 0)); !got.Split {
				t.Error("not split any more")
			}
		}
	}
}

// One behind Done goes behind it, farther ones do not.
func TestWhatIsAppliedTooFar(t *testing.T) {
	k := kept(3, 1, 0, 0, "", noop(1), noop(2), noop(2), noop(3))
	for have := range 5 {
		for applied := range 5 {
			c := withCluster(pending(t, k, applied), func(c *impl.Cluster) {
				c.Done, c.Said = slices.Clone(k.Log[:have]), make([]string, have)
			})
			got := done(t, c, tick(1, 0))
			far := applied > have && applied < 4
			if far && (!got.Split || len(got.Done) != have) || !far && (got.Split || len(got.Done) != max(have, map[bool]int{true: 4}[applied < 4])) {
				t.Error(have, applied, got.Split, len(got.Done))
			}
			if got.R[0].Applied != 4 || len(got.Said) != len(got.Done) {
				t.Error(have, applied, got.R[0].Applied, len(got.Said))
			}
		}
	}
}

// From behind a snapshot: its state is taken where less is applied, and then the entries behind it.
func TestWhatIsAppliedBehindASnapshot(t *testing.T) {
	state := smallState(t)
	entries := []impl.Entry{asked(2, string(lineBytes(t, "open now=1001"))), noop(3)}
	k := kept(3, 1, 5, 2, string(imageWanted(state)), entries...)
	behind, _ := stepWanted(state, commandOf(t, "open now=1001"))
	for applied := range 9 {
		for _, have := range []int{0, 4, 5, 6, 7, 8} {
			c := withCluster(pending(t, k, applied), func(c *impl.Cluster) {
				c.Done, c.Said = slices.Concat(noops(1, 5), entries, noops(3, 1))[:have], []string{"", "", "", "", "", "session 7", "", ""}[:have]
			})
			got := done(t, c, tick(1, 0))
			r := got.R[0]
			if r.Applied != max(7, applied) {
				t.Error(applied, have, r.Applied)
			}
			if applied <= 4 && (!isSameState(r.S, behind) || got.Split != (have < 5) || len(got.Done) != max(have, map[bool]int{true: 7}[have >= 5])) {
				t.Error(applied, have, r.S, got.Split, len(got.Done))
			}
			if applied == 5 && r.S.Desk.Next != 2 || applied > 5 && (!isSameState(r.S, impl.StateNew()) || got.Split != (applied == 6 && have < 6)) {
				t.Error(applied, have, r.S, got.Split)
			}
		}
	}
	// The snapshot alone; one that is no state, of which all is refused.
	alone := pending(t, kept(3, 1, 5, 2, string(imageWanted(state))), 0)
	if got := done(t, alone, tick(1, 0)); !isSameState(got.R[0].S, state) || got.R[0].Applied != 5 || got.Split || len(got.Done) != 0 {
		t.Error(replicaText(got.R[0]), got.Split)
	}
	for _, snap := range []string{"junk", "", string(imageAny(impl.State{})), string(imageWanted(state)) + "x"} {
		c := withCluster(pending(t, kept(3, 1, 5, 2, snap, entries...), 3), func(c *impl.Cluster) {
			c.Done, c.Said = noops(1, 5), make([]string, 5)
		})
		got := done(t, c, tick(1, 0))
		if !got.Split || !isSameState(got.R[0].S, impl.State{}) || got.R[0].Applied != 7 || !slices.Equal(got.Said[5:], []string{"error form", ""}) {
			t.Error(snap, replicaText(got.R[0]), got.Said)
		}
		if checkRight(t, got) {
			t.Error(snap, "the zero state is right")
		}
	}
}

// A snapshot that is sent: its state is taken, and what it has is not applied once more.
func TestSnapshotThatIsSent(t *testing.T) {
	state := smallState(t)
	m := impl.Msg{Kind: 5, From: 1, To: 2, Term: 4, Index: 9, LogTerm: 3, Data: imageWanted(state), Group: groupOf(upTo(3))}
	c := withCluster(newCluster(t, 3), func(c *impl.Cluster) { c.Net = []impl.Msg{m} })
	got := done(t, c, to(impl.EvDeliver, 0))
	r := got.R[1]
	if r.Applied != 9 || r.N.Commit != 9 || !isSameState(r.S, state) || got.Split || len(got.Done) != 0 || len(got.Net) != 1 {
		t.Error(replicaText(r), msgsText(got.Net))
	}
	if want := framesOf(voteInner(4, 0), snapInner(9, 3, []byte{7, 0}, m.Data)); !sameFile(r.F, impl.File{Bytes: want, Sure: len(want)}) {
		t.Error(fileText(r.F))
	}
	junk := withCluster(c, func(c *impl.Cluster) { c.Net[0].Data = []byte("junk") })
	if got = done(t, junk, to(impl.EvDeliver, 0)); !got.Split || got.R[1].Applied != 9 || !isSameState(got.R[1].S, impl.State{}) {
		t.Error(replicaText(got.R[1]), got.Split)
	}
}

// Who leads goes behind Led once, each time that it begins to.
func TestWhoLed(t *testing.T) {
	c := ledBy(t, 3, 2)
	if !slices.Equal(c.Led, [][2]int{{1, 2}}) {
		t.Fatal(c.Led)
	}
	c = asks(t, c, someLines()...)
	c = done(t, c, at(impl.EvCompact, 2), propose(2, []byte("x")))
	if c = beaten(t, quiet(t, c), 2); !slices.Equal(c.Led, [][2]int{{1, 2}}) {
		t.Error(c.Led)
	}
	c = quiet(t, done(t, c, ticks(3, waitTicks)...))
	if !slices.Equal(c.Led, [][2]int{{1, 2}, {2, 3}}) || impl.Chief(c) != 3 || c.R[1].N.Role != 0 {
		t.Error(c.Led, impl.Chief(c))
	}
	c = done(t, c, at(impl.EvCrash, 3), at(impl.EvStart, 3))
	if !slices.Equal(c.Led, [][2]int{{1, 2}, {2, 3}}) || impl.Chief(c) != 0 {
		t.Error(c.Led, impl.Chief(c))
	}
	c = quiet(t, done(t, c, ticks(3, waitTicks)...))
	if !slices.Equal(c.Led, [][2]int{{1, 2}, {2, 3}, {3, 3}}) || impl.Chief(c) != 3 {
		t.Error(c.Led, impl.Chief(c))
	}
	// Alone it leads by its own tick, and again when it was down.
	alone := newCluster(t, 1)
	for term := 1; term <= 3; term++ {
		alone = done(t, alone, ticks(1, waitTicks+3)...)
		if len(alone.Led) != term || alone.Led[term-1] != [2]int{term, 1} || len(alone.Done) != term || len(alone.Net) != 0 {
			t.Fatal(alone.Led, alone.Done)
		}
		alone = done(t, alone, at(impl.EvCrash, 1), at(impl.EvStart, 1))
	}
	// One whose file takes no more has not led, nor has one that is torn.
	stands := done(t, newCluster(t, 1), ticks(1, waitTicks-1)...)
	if got := done(t, fullUpTo(stands, 9), tick(1, 0)); len(got.Led) != 0 || got.R[0].Up {
		t.Error(got.Led)
	}
	voted := done(t, done(t, newCluster(t, 3), ticks(1, waitTicks)...), to(impl.EvDeliver, 0))
	if got := done(t, voted, impl.Event{Kind: impl.EvTear, To: 1, Coin: 1000}); len(got.Led) != 0 || len(got.Net) != 1 || got.R[0].Up {
		t.Error(got.Led, msgsText(got.Net))
	}
	if got := done(t, voted, to(impl.EvDeliver, 1)); !slices.Equal(got.Led, [][2]int{{1, 1}}) {
		t.Error(got.Led)
	}
}

// What one wrote that led and was heard by nobody is taken away by who leads next, also from its file, and was never applied.
func TestWhatWasNeverAgreed(t *testing.T) {
	c := done(t, ledBy(t, 3, 1), propose(1, lineBytes(t, "open now=4")), propose(1, lineBytes(t, "time now=9")))
	for len(c.Net) > 0 {
		c = done(t, c, to(impl.EvDrop, 0))
	}
	c = done(t, c, ticks(2, waitTicks)...)
	for len(c.Net) > 0 {
		kind := impl.EvDeliver
		if c.Net[0].To == 1 {
			kind = impl.EvDrop
		}
		c = done(t, c, to(kind, 0))
	}
	if impl.Chief(c) != 2 || c.R[0].N.Role != 2 || len(c.R[0].N.K.Log) != 3 || len(c.Done) != 2 {
		t.Fatal(impl.Chief(c), replicaText(c.R[0]), c.Done)
	}
	c = asks(t, c, "open now=77")
	c = beaten(t, done(t, c, at(impl.EvCrash, 1), at(impl.EvStart, 1)), 2)
	want := []impl.Entry{noop(1), noop(2), asked(2, string(lineBytes(t, "open now=77")))}
	for _, r := range c.R {
		if !slices.EqualFunc(r.N.K.Log, want, sameEntry) || r.S.Book.Now != 77 || r.S.Count != 1 || r.Applied != 3 {
			t.Error(replicaText(r))
		}
	}
	if !slices.EqualFunc(c.Done, want, sameEntry) || !slices.Equal(c.Said, []string{"", "", "session 1"}) || c.Split {
		t.Error(c.Done, c.Said)
	}
}

func TestChief(t *testing.T) {
	type one struct {
		up   bool
		role int
		term int
	}
	for _, c := range []struct {
		list []one
		want int
	}{
		{nil, 0},
		{[]one{{true, 0, 3}}, 0},
		{[]one{{true, 1, 3}}, 0},
		{[]one{{true, 2, 3}}, 1},
		{[]one{{false, 2, 3}}, 0},
		{[]one{{true, 2, 0}}, 1},
		{[]one{{true, 2, -5}}, 1},
		{[]one{{true, 0, 9}, {true, 2, 3}}, 2},
		{[]one{{true, 2, 3}, {true, 2, 4}}, 2},
		{[]one{{true, 2, 4}, {true, 2, 3}}, 1},
		{[]one{{true, 2, 4}, {true, 2, 4}}, 1},
		{[]one{{false, 2, 4}, {true, 2, 4}}, 2},
		{[]one{{true, 2, 3}, {false, 2, 4}}, 1},
		{[]one{{true, 2, 3}, {false, 2, 9}, {true, 2, 5}, {true, 1, 8}, {true, 2, 5}, {true, 2, 4}, {true, 0, 99}}, 3},
		{[]one{{false, 2, 3}, {false, 2, 9}, {true, 1, 5}}, 0},
		{slices.Repeat([]one{{true, 2, 7}}, 7), 1},
		{append(slices.Repeat([]one{{true, 2, 7}}, 6), one{true, 2, 8}), 7},
	} {
		x := impl.Cluster{}
		for i, r := range c.list {
			s := serverOf(i+1, kept(r.term, 0, 0, 0, ""))
			s.Role = r.role
			x.R = append(x.R, impl.Replica{N: s, Up: r.up})
		}
		checkRight(t, x)
		if got := impl.Chief(x); got != c.want {
			t.Errorf("Chief of %v = %d, not %d", c.list, got, c.want)
		}
	}
}

func TestPlay(t *testing.T) {
	c := midway(t)
	for _, list := range [][]impl.Event{nil, {}} {
		if got := checkPlay(t, c, list); !sameCluster(got, c) {
			t.Error(apartText(got, c))
		}
	}
	// What does nothing in the midst is passed over.
	list := []impl.Event{tick(2, 0), {}, {Kind: 11}, tick(2, 0), tick(9, 0), to(impl.EvDrop, 99), tick(2, 0)}
	if got := checkPlay(t, c, list); got.R[1].N.Elapsed != c.R[1].N.Elapsed+3 {
		t.Error(got.R[1].N.Elapsed)
	}
	// The last one that counts is the one at MaxEvents, be those ahead done or not.
	for _, ahead := range []impl.Event{tick(2, 0), {}, at(impl.EvStart, 2)} {
		for count := mostEvents - 2; count <= mostEvents+1; count++ {
			list := append(slices.Repeat([]impl.Event{ahead}, count), at(impl.EvCrash, 1))
			got := impl.Play(newCluster(t, 3), list)
			if got.R[0].Up != (count >= mostEvents) {
				t.Error(eventText(ahead), count, got.R[0].Up)
			}
			if apart := apartText(got, playWanted(newCluster(t, 3), list)); apart != "" {
				t.Error(apart)
			}
		}
	}
	far := append(slices.Repeat([]impl.Event{{}}, mostEvents), slices.Repeat([]impl.Event{at(impl.EvCrash, 1)}, 3000)...)
	if got := checkPlay(t, c, far); !sameCluster(got, c) {
		t.Error(apartText(got, c))
	}
}

// Done and Led may go past what ClusterOk takes: by the words a play goes on then, and one by one nothing is done any more.
func TestHistoryGoesPastItsBounds(t *testing.T) {
	for _, have := range []int{mostHistory - 1, mostHistory} {
		c := withCluster(done(t, newCluster(t, 1), ticks(1, waitTicks-1)...), func(c *impl.Cluster) {
			c.Led = make([][2]int, have)
			c.Done, c.Said = noops(1, mostHistory), make([]string, mostHistory)
		})
		list := []impl.Event{tick(1, 0), tick(1, 0), propose(1, []byte("x"))}
		first, ok := quickDo(t, c, list[0])
		if !ok || len(first.Led) != have+1 || len(first.Done) != mostHistory || impl.ClusterOk(first) != (have < mostHistory) {
			t.Error(have, ok, len(first.Led), len(first.Done))
		}
		if _, ok = quickDo(t, first, list[1]); ok != (have < mostHistory) {
			t.Error(have, ok)
		}
		got := impl.Play(c, list)
		if apart := apartText(got, playWanted(c, list)); apart != "" || got.R[0].Applied != 2 {
			t.Error(apart)
		}
	}
	c := withCluster(done(t, newCluster(t, 1), ticks(1, waitTicks)...), func(c *impl.Cluster) {
		c.Done, c.Said = noops(1, mostHistory), make([]string, mostHistory)
		c.R[0].Applied, c.R[0].N.K = mostHistory, kept(1, 1, mostHistory, 1, string(imageWanted(impl.StateNew())))
		c.R[0].N.K.Group, c.R[0].N.Commit, c.R[0].N.Next = groupOf([]int{1}), mostHistory, [8]int{0, 1, 1, 1, 1, 1, 1, 1}
	})
	got, ok := quickDo(t, c, propose(1, []byte("x")))
	if !ok || len(got.Done) != mostHistory+1 || len(got.Said) != mostHistory+1 || impl.ClusterOk(got) || got.Split {
		t.Error(ok, len(got.Done), got.Split)
	}
	if _, ok = quickDo(t, got, tick(1, 0)); ok {
		t.Error("goes on")
	}
}

// A clusterWalker moves a cluster by any events.
type clusterWalker struct {
	chance   *rand.Rand
	c        impl.Cluster
	commands *stateWalker
	seen     map[string]int
	calm     bool
	left     int
	pace     int
	eager    int
	apart    int
}

func newClusterWalker(seed int, c impl.Cluster, seen map[string]int) *clusterWalker {
	return &clusterWalker{chance: rand.New(rand.NewSource(int64(seed))), c: c, commands: newStateWalker(seed, map[string]int{}), seen: seen}
}

func (w *clusterWalker) someId() int {
	return 1 + w.chance.Intn(len(w.c.R))
}

// someChief is mostly who leads.
func (w *clusterWalker) someChief() int {
	if chief := impl.Chief(w.c); chief > 0 && w.chance.Intn(12) > 0 {
		return chief
	}
	return w.someId()
}

// somePlace is mostly the first one, or near it.
func (w *clusterWalker) somePlace() int {
	return w.chance.Intn(max(1, min(len(w.c.Net), pickedOf(w.chance, 1, 1, 3, mostNet))))
}

// someProposal is mostly a command that goes on with what the replica has, also at one that leads in an older term.
func (w *clusterWalker) someProposal() impl.Event {
	id := w.someChief()
	if stale := w.apart; stale > 0 && w.c.R[stale-1].N.Role == 2 && w.chance.Intn(2) == 0 {
		id = stale
	}
	s := w.c.R[id-1].S
	w.commands.state = s
	data := bytesWanted(w.commands.someCommand())
	if c, ok := commandOfText(nextLine(w.chance, s)); ok && w.chance.Intn(3) > 0 {
		data = bytesWanted(c)
	}
	if w.chance.Intn(25) == 0 {
		data = []byte(longText(pickedOf(w.chance, 0, 1, 30, mostCommand, mostCommand+1)))
	}
	return propose(id, data)
}

// nextLine is a command that is done by this state, mostly.
func nextLine(chance *rand.Rand, s impl.State) string {
	if len(s.Desk.Sessions) == 0 {
		return fmt.Sprintf("open now=%d", s.Book.Now)
	}
	x := s.Desk.Sessions[0]
	head := fmt.Sprintf(" session=%d seq=%d now=%d ", x.Id, x.Last+1, s.Book.Now+1)
	switch {
	case len(s.Plan.Pools) == 0:
		return "add-pool" + head + "at=10.0.0.0/24 bits=28"
	case len(s.Plan.Blocks) < 3:
		return "carve" + head + "at=10.0.0.0/24 owner=ann"
	}
	return "grant" + head + fmt.Sprintf("at=10.0.0.%d/28 owner=ann span=9", 16*chance.Intn(3))
}

func (w *clusterWalker) someStart() impl.Event {
	for id, r := range w.c.R {
		if !r.Up && w.chance.Intn(3) > 0 {
			return at(impl.EvStart, id+1)
		}
	}
	return at(impl.EvStart, w.someId())
}

// turn begins another time, at times one in which nothing that is sent comes. Who is apart then is mostly the one that leads, and another one counts its ticks, mostly a member.
func (w *clusterWalker) turn() {
	w.calm, w.left, w.pace = w.chance.Intn(6) > 0, 20+w.chance.Intn(50), pickedOf(w.chance, 8, 8, 8, 1)
	chief := impl.Chief(w.c)
	w.eager, w.apart = w.someId(), 0
	if w.chance.Intn(2) == 0 {
		w.apart = pickedOf(w.chance, w.someId(), max(1, chief))
	}
	if chief > 0 && chief != w.apart {
		w.eager = chief
		return
	}
	for id, r := range w.c.R {
		if id+1 != w.apart && slices.Contains(membersWanted(groupWanted(r.N.K)), id+1) && w.chance.Intn(3) > 0 {
			w.eager = id + 1
		}
	}
}

// someEvent is seldom one that does nothing. In a calm time one of them counts its ticks, and what is sent comes, but for what is sent to or by one that is apart; in another anything happens. The changes of the group are to any replicas, and at times to one that is not there.
func (w *clusterWalker) someEvent(mayChange bool) impl.Event {
	if w.left--; w.left < 0 {
		w.turn()
	}
	if w.calm && w.chance.Intn(12) > 0 {
		return w.calmEvent(mayChange)
	}
	switch n := w.chance.Intn(30); {
	case n < 5:
		return tick(w.someId(), w.chance.Intn(14)-2)
	case n < 9:
		return to(impl.EvDeliver, w.somePlace())
	case n < 12:
		return to(impl.EvDrop, w.somePlace())
	case n < 14:
		return to(impl.EvDouble, w.somePlace())
	case n < 16:
		return impl.Event{Kind: impl.EvTear, To: w.somePlace(), Coin: pickedOf(w.chance, -1, 0, 3, 8, 12, 30, 1000)}
	case n < 18:
		return at(impl.EvCrash, w.someId())
	case n < 21:
		return w.someStart()
	case n < 24:
		return at(impl.EvCompact, w.someId())
	case n < 26 && mayChange:
		return w.someChange()
	case n < 27:
		return impl.Event{Kind: w.chance.Intn(13) - 1, At: w.chance.Intn(10) - 1, To: w.chance.Intn(70) - 2, Coin: w.chance.Intn(9), Next: []int{1}}
	}
	return w.someProposal()
}

func (w *clusterWalker) calmEvent(mayChange bool) impl.Event {
	isDown := slices.ContainsFunc(w.c.R, func(r impl.Replica) bool { return !r.Up })
	if len(w.c.Net) > 0 && w.chance.Intn(w.pace) > 0 {
		if m := w.c.Net[0]; m.To == w.apart || m.From == w.apart {
			return to(impl.EvDrop, 0)
		}
		return to(impl.EvDeliver, 0)
	}
	switch n := w.chance.Intn(24); {
	case isDown && n < 8:
		return w.someStart()
	case n == 8 && mayChange:
		return w.someChange()
	case n == 9:
		return at(impl.EvCompact, w.someId())
	case n < 14 || impl.Chief(w.c) == 0:
		return tick(w.eager, w.chance.Intn(14)-2)
	}
	return w.someProposal()
}

func (w *clusterWalker) someChange() impl.Event {
	rows := 1 << len(w.c.R)
	if w.chance.Intn(20) == 0 {
		rows = allRows
	}
	return changeTo(w.someChief(), idsOf(1+w.chance.Intn(rows-1))...)
}

// looked is what holds of every cluster that came of ClusterNew: in no term two lead, and no two disagree on what was applied.
func (w *clusterWalker) looked(t *testing.T) {
	t.Helper()
	if !impl.ClusterOk(w.c) || w.c.Split {
		t.Fatalf("right: %v, split: %v", impl.ClusterOk(w.c), w.c.Split)
	}
	terms := map[int]bool{}
	for _, led := range w.c.Led {
		if terms[led[0]] {
			t.Fatal("two lead in one term:", w.c.Led)
		}
		terms[led[0]] = true
	}
	for _, r := range w.c.R {
		if r.Up && r.Applied != r.N.Commit || r.Applied > len(w.c.Done) {
			t.Fatal("applied:", replicaText(r), len(w.c.Done))
		}
	}
}

// lookedAtFiles is what holds of them, too: what is kept is what is in the file, and those that have applied the same have the same state.
func (w *clusterWalker) lookedAtFiles(t *testing.T) {
	t.Helper()
	for _, r := range w.c.R {
		k, end := impl.Redo(impl.KeepNew(w.c.Group), r.F.Bytes)
		if r.Up && (!sameKeep(k, r.N.K) || end != len(r.F.Bytes)) || r.F.Sure != len(r.F.Bytes) {
			t.Fatalf("the file tells %s, kept is %s", keepText(k), keepText(r.N.K))
		}
		for _, q := range w.c.R {
			if r.Up && q.Up && r.Applied == q.Applied && !isSameState(r.S, q.S) {
				t.Fatalf("two states behind %d entries: %v and %v", r.Applied, r.S, q.S)
			}
		}
	}
}

// isTaken tells whether an entry of a is not in b, nor in its snapshot.
func isTaken(a impl.Keep, b impl.Keep) bool {
	for i, e := range a.Log {
		index := a.Base + 1 + i
		if index > lastOf(b) || index > b.Base && !sameEntry(e, b.Log[index-b.Base-1]) {
			return true
		}
	}
	return false
}

func (w *clusterWalker) noted(e impl.Event, before impl.Cluster, ok bool) {
	w.seen[fmt.Sprint("kind ", e.Kind, " ", ok)]++
	count := func(what string, did bool) {
		if did {
			w.seen[what]++
		}
	}
	count("led", len(w.c.Led) > len(before.Led))
	count("applied", len(w.c.Done) > len(before.Done))
	count("net is full", len(w.c.Net) == mostNet)
	for i, r := range w.c.R {
		was := before.R[i]
		count("a snapshot came", r.Up && was.Up && r.N.K.Base > was.N.K.Base && e.Kind == impl.EvDeliver)
		count("started with a snapshot", r.Up && !was.Up && r.N.K.Base > 0)
		count("a torn tail", r.Up && !was.Up && len(r.F.Bytes) < len(was.F.Bytes))
		count("entries taken away", r.Up && was.Up && isTaken(was.N.K, r.N.K))
		count("joint", len(groupWanted(r.N.K).Next) > 0 && len(groupWanted(was.N.K).Next) == 0)
		count("settled", len(groupWanted(r.N.K).Next) == 0 && len(groupWanted(was.N.K).Next) > 0)
	}
	if n := len(w.c.Said); n > len(before.Said) {
		count("said ok", strings.HasPrefix(w.c.Said[n-1], "ok"))
		count("said error", strings.HasPrefix(w.c.Said[n-1], "error"))
	}
}

// Promise 16, and what follows, of clusters that ClusterNew made, by any events: each is done as the chapter tells, what was applied stays, in no term two lead, and no two disagree.
func TestClustersMovedByAnything(t *testing.T) {
	seen := map[string]int{}
	for seed := range 60 {
		n := 1 + seed%5
		c, _ := impl.ClusterNew(n, upTo(max(1, n-seed%3)))
		w := newClusterWalker(seed, c, seen)
		for step := range 420 {
			e, before := w.someEvent(seed%4 > 0), w.c
			call := quickDo
			if step%20 == 0 {
				call = checkDo
			}
			got, ok := call(t, before, e)
			w.c = got
			w.looked(t)
			if step%10 == 0 {
				w.lookedAtFiles(t)
			}
			w.noted(e, before, ok)
		}
	}
	for kind := 1; kind <= 10; kind++ {
		for _, ok := range []bool{true, false} {
			if what := fmt.Sprint("kind ", kind, " ", ok); seen[what] < 20 {
				t.Error("hardly ever seen:", what, seen[what])
			}
		}
	}
	for _, what := range []string{"led", "applied", "net is full", "a snapshot came", "started with a snapshot", "a torn tail", "entries taken away", "joint", "settled", "said ok", "said error"} {
		if seen[what] < 3 {
			t.Error("hardly ever seen:", what, seen)
		}
	}
}

// The other half of promise 16: one by one, cut into plays anywhere, and as one play it is the same.
func TestEventsOneByOneAreOnePlay(t *testing.T) {
	done := 0
	for seed := range 40 {
		chance := rand.New(rand.NewSource(int64(seed)))
		first, _ := impl.ClusterNew(1+seed%mostNodes, []int{1})
		if seed%3 > 0 {
			first, _ = impl.ClusterNew(1+seed%mostNodes, upTo(1+seed%mostNodes))
		}
		w, list := newClusterWalker(seed, first, map[string]int{}), []impl.Event{}
		for range pickedOf(chance, 1, 60, mostEvents-1, mostEvents) {
			e := w.someEvent(seed%2 > 0)
			w.c, _ = impl.Do(w.c, e)
			list = append(list, e)
		}
		if apart := apartText(impl.Play(first, list), w.c); apart != "" {
			t.Fatal("one play, and one by one:", apart)
		}
		cut := chance.Intn(len(list) + 1)
		if apart := apartText(impl.Play(impl.Play(first, list[:cut]), list[cut:]), w.c); apart != "" {
			t.Fatal("two plays, and one by one:", apart)
		}
		done += len(w.c.Done)
		if len(list) > 100 {
			continue
		}
		checkPlay(t, first, list)
	}
	if done < 100 {
		t.Error("hardly anything was applied:", done)
	}
}

// someFile has mostly the records of what is kept, at times with something torn behind, or no records at all.
func someFile(chance *rand.Rand, g impl.Group, k impl.Keep) impl.File {
	b := recordsWanted(impl.Keep{Group: g}, k)
	switch n := chance.Intn(25); {
	case n < 3:
		b = []byte(longText(chance.Intn(60)))
	case n < 9:
		b = append(b, frameOf(someInner(chance, k))...)
		b = b[:max(0, len(b)-chance.Intn(4))]
	case n == 9:
		b = longFile(mostFile-chance.Intn(30), 0).Bytes
	}
	return impl.File{Bytes: b, Sure: pickedOf(chance, len(b), len(b), chance.Intn(len(b)+1))}
}

// someSnapped has a snapshot that is a state, mostly; and commands among what is kept.
func someSnapped(t *testing.T, chance *rand.Rand, s impl.Server) impl.Server {
	t.Helper()
	if s.K.Base > 0 && chance.Intn(3) > 0 {
		s.K.Snap = imageWanted(pickedOf(chance, impl.StateNew(), smallState(t), plainState(t)))
	}
	lines := commandsOf(t, "open now=4", "time now=40", "open now=1", "close session=2 now=30")
	for i, e := range s.K.Log {
		if e.Kind == 2 && chance.Intn(2) == 0 {
			s.K.Log[i].Data = bytesWanted(pickedOf(chance, lines...))
		}
	}
	return s
}

// someHistory is what was applied: mostly what this server has, as far as it has it, and what is said then of a new state.
func someHistory(chance *rand.Rand, s impl.Server, applied int) ([]impl.Entry, []string) {
	done, said, state := []impl.Entry{}, []string{}, impl.StateNew()
	for index := 1; index <= min(200, max(0, applied+pickedOf(chance, -3, -1, 0, 0, 0, 1, 2, 9))); index++ {
		e, there := entryAt(s.K, index)
		if !there || chance.Intn(25) == 0 {
			e = noop(1)
		}
		reply := ""
		if e.Kind == 2 {
			command, _ := commandOfBytes(e.Data)
			state, reply = stepWanted(state, command)
		}
		done, said = append(done, e), append(said, reply)
	}
	return done, said
}

// someCluster is a right one that came of nothing: its servers do not belong together.
func someCluster(t *testing.T, chance *rand.Rand) impl.Cluster {
	t.Helper()
	c := impl.Cluster{Group: groupOfBits(1+chance.Intn(allRows-1), chance.Intn(2)*chance.Intn(allRows)), Split: chance.Intn(6) == 0}
	count := 1 + chance.Intn(4)
	for id := 1; id <= count; id++ {
		s := someSnapped(t, chance, someServer(chance))
		s.Id = id
		if chance.Intn(3) == 0 {
			s.K = settledOnly(chance, s.K)
		}
		r := impl.Replica{N: s, S: pickedOf(chance, impl.StateNew(), impl.StateNew(), smallState(t)), Up: chance.Intn(4) > 0}
		r.Applied = pickedOf(chance, 0, s.K.Base, s.Commit, s.Commit, max(0, s.Commit-1), max(0, s.K.Base-1), min(lastAt, lastOf(s.K)+1))
		r.F = someFile(chance, c.Group, s.K)
		c.R = append(c.R, r)
	}
	for range pickedOf(chance, 1, 4, 4, 9, 9, mostNet) {
		m := nearMsg(chance, c.R[chance.Intn(len(c.R))].N)
		if chance.Intn(15) == 0 {
			m.To = 1 + chance.Intn(mostNodes)
		}
		if msgRight(m) {
			c.Net = append(c.Net, m)
		}
	}
	r := c.R[chance.Intn(len(c.R))]
	c.Done, c.Said = someHistory(chance, r.N, r.Applied)
	c.Led = make([][2]int, chance.Intn(4))
	return c
}

// Clusters that came of nothing, by each kind of event: what is torn, full, split or too far is so here, too.
func TestAnyClusters(t *testing.T) {
	seen := map[string]int{}
	for seed := range 2500 {
		chance := rand.New(rand.NewSource(int64(seed)))
		c := someCluster(t, chance)
		if !checkRightQuick(t, c) {
			t.Fatal("wrong:", seed)
		}
		w := newClusterWalker(seed, c, seen)
		e := w.someEvent(true)
		if chance.Intn(4) > 0 {
			e = impl.Event{Kind: 1 + chance.Intn(10), At: w.someChief(), To: w.somePlace(), Coin: chance.Intn(50) - 4, Data: []byte("x"), Next: idsOf(1 + chance.Intn(allRows-1))}
		}
		if e.Kind == impl.EvStart {
			e = w.someStart()
		}
		call := quickDo
		if seed%6 == 0 {
			call = checkDo
		}
		got, ok := call(t, c, e)
		w.c = got
		w.noted(e, c, ok)
		if got.Split && !c.Split {
			seen[fmt.Sprint("split by ", e.Kind)]++
		}
		if ok && e.Kind != impl.EvCrash && e.Kind != impl.EvTear && slices.ContainsFunc([]int{0, 1, 2, 3}, func(i int) bool { return i < len(c.R) && c.R[i].Up && !got.R[i].Up }) {
			seen["takes no more"]++
		}
		list := []impl.Event{e, w.someEvent(true), w.someEvent(true)}
		if apart := apartText(impl.Play(c, list), playWanted(c, list)); apart != "" {
			t.Fatal(seed, apart)
		}
	}
	for kind := 1; kind <= 10; kind++ {
		if what := fmt.Sprint("kind ", kind, " true"); seen[what] < 5 {
			t.Error("hardly ever seen:", what, seen)
		}
	}
	for _, what := range []string{"split by 1", "split by 2", "split by 7", "takes no more", "led", "applied", "a snapshot came", "started with a snapshot", "a torn tail"} {
		if seen[what] < 5 {
			t.Error("hardly ever seen:", what, seen)
		}
	}
}

func checkRightQuick(t *testing.T, c impl.Cluster) bool {
	t.Helper()
	ok := impl.ClusterOk(c)
	if ok != clusterRight(c) || impl.Chief(c) != chiefWanted(c) {
		t.Fatalf("ClusterOk is %v, Chief is %d", ok, impl.Chief(c))
	}
	return ok
}

// What was answered stays, whatever happens to what was handed in, to another answer, and to the clusters that go on.
func TestClustersStayApart(t *testing.T) {
	c := midway(t)
	for _, e := range append(oneOfEach(t), impl.Event{}, tick(3, 0), to(impl.EvDeliver, 99)) {
		one, _ := impl.Do(c, e)
		was := cloneCluster(one)
		two, _ := impl.Do(c, e)
		over := &clusterMemory{}
		over.add(two)
		over.scribbleAll()
		on := impl.Play(one, []impl.Event{tick(1, 0), tick(2, 0), to(impl.EvDeliver, 0), at(impl.EvStart, 3), at(impl.EvCrash, 2), propose(1, []byte("x"))})
		over = &clusterMemory{}
		over.add(on)
		over.scribbleAll()
		if !sameCluster(one, was) {
			t.Error("memory is shared:", eventText(e), apartText(one, was))
		}
	}
	// One memory in several places of what is handed in: in the answer each has its own.
	data, row := []byte("data"), []int{1, 2, 3}
	entries := []impl.Entry{{Term: 2, Kind: 2, Data: data}, {Term: 3, Kind: 2, Data: data}}
	k := impl.Keep{Term: 3, Base: 2, BaseTerm: 1, Group: impl.Group{Now: row, Next: row}, Snap: data, Log: entries}
	m := impl.Msg{Kind: 3, From: 1, To: 2, Term: 3, Index: 4, LogTerm: 3, Entries: entries[1:]}
	snap := impl.Msg{Kind: 5, From: 1, To: 2, Term: 3, Index: 4, LogTerm: 3, Data: data, Group: k.Group}
	shared := impl.Cluster{Group: k.Group, Net: []impl.Msg{m, m, snap, snap}, Done: entries, Said: []string{"", ""}}
	for id := 1; id <= 3; id++ {
		s := serverOf(id, k)
		s.Votes = row
		shared.R = append(shared.R, impl.Replica{N: s, S: impl.StateNew(), Applied: 2, F: impl.File{Bytes: data, Sure: 1}, Up: id < 3})
	}
	for _, e := range []impl.Event{{}, tick(1, 0), to(impl.EvDeliver, 0), to(impl.EvDeliver, 2), to(impl.EvDouble, 0), to(impl.EvDouble, 3), at(impl.EvCrash, 1), {Kind: impl.EvTear, Coin: 9}, at(impl.EvStart, 3), propose(1, data), changeTo(1, row...)} {
		checkDo(t, shared, e)
		one, _ := impl.Do(shared, e)
		own := &clusterMemory{}
		own.add(one)
		if !own.scribbleAll() {
			t.Error("two lists have one memory:", eventText(e))
		}
	}
	if string(data) != "data" || !slices.Equal(row, []int{1, 2, 3}) || len(shared.Net) != 4 || shared.R[0].F.Sure != 1 {
		t.Error(data, row)
	}
}
