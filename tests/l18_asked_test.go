package tests

import (
	"fmt"
	"math"
	"math/rand"
	"regexp"
	"slices"
	"strconv"
	"strings"
	"testing"

	"loop.example/g00113/impl"
)

// A hearing is all that clients of one cluster asked and were told.
type hearing struct {
	commands []impl.Command
	expected []string
	told     []string
	once     bool
	tokens   []int
	replies  map[[2]int]string
}

// askedKeys are the requests of which ReplyTo is asked: those of Done, those next to them, and far ones.
func askedKeys(c impl.Cluster) [][2]int {
	list := [][2]int{{0, 0}, {1, 0}, {0, 1}, {1, 1}, {1, -1}, {-1, 1}, {math.MinInt, math.MinInt}, {math.MaxInt, math.MaxInt}, {lastSession, lastSeq}}
	for _, x := range commandsWanted(c) {
		for _, key := range [][2]int{{0, 0}, {0, 1}, {0, -1}, {1, 0}, {-1, 0}, {1 << 32, 0}, {0, 1 << 32}} {
			list = append(list, [2]int{x.Session + key[0], x.Seq + key[1]})
		}
		list = append(list, [2]int{x.Seq, x.Session}, [2]int{x.Session, -x.Seq})
	}
	slices.SortFunc(list, func(a [2]int, b [2]int) int { return slices.Compare(a[:], b[:]) })
	return slices.Compact(list)
}

func hearingOf(c impl.Cluster) hearing {
	h := hearing{impl.Commands(c), impl.Expected(c), impl.Told(c), impl.Once(c), impl.Tokens(c), map[[2]int]string{}}
	for _, key := range askedKeys(c) {
		if reply, ok := impl.ReplyTo(c, key[0], key[1]); ok {
			h.replies[key] = reply
		} else if reply != "" {
			h.replies[key] = "told beside false: " + reply
		}
	}
	return h
}

func commandsWanted(c impl.Cluster) []impl.Command {
	list := []impl.Command{}
	for _, e := range c.Done {
		if e.Kind == 2 {
			x, ok := commandOfBytes(e.Data)
			if !ok {
				x = impl.Command{}
			}
			list = append(list, x)
		}
	}
	return list
}

func expectedWanted(c impl.Cluster) []string {
	list, s := []string{}, impl.State{Desk: impl.Desk{Next: 1}}
	for _, x := range commandsWanted(c) {
		reply := ""
		s, reply = stepWanted(s, x)
		list = append(list, reply)
	}
	return list
}

// eachTold goes through what was said, each with its command.
func eachTold(c impl.Cluster, look func(x impl.Command, said string)) {
	for i, e := range c.Done {
		if e.Kind == 2 && i < len(c.Said) {
			x, _ := commandOfBytes(e.Data)
			look(x, c.Said[i])
		}
	}
}

func notTaken(said string) bool {
	for _, s := range []string{"error session", "error old", "error gap"} {
		if len(said) >= len(s) && said[:len(s)] == s {
			return true
		}
	}
	return false
}

// replyWanted goes from the last to the first, which counts.
func replyWanted(c impl.Cluster, session int, seq int) (string, bool) {
	reply, ok := "", false
	for i := min(len(c.Done), len(c.Said)) - 1; i >= 0; i-- {
		if c.Done[i].Kind != 2 || seq < 1 || notTaken(c.Said[i]) {
			continue
		}
		if x, _ := commandOfBytes(c.Done[i].Data); x.Session == session && x.Seq == seq {
			reply, ok = c.Said[i], true
		}
	}
	return reply, ok
}

func onceWanted(c impl.Cluster) bool {
	once := true
	eachTold(c, func(x impl.Command, said string) {
		if x.Seq >= 1 && !notTaken(said) {
			reply, ok := replyWanted(c, x.Session, x.Seq)
			once = once && ok && reply == said
		}
	})
	return once
}

func tokenWanted(said string) (int, bool) {
	parts := regexp.MustCompile(`\Aok ([^ ]+) ([1-9][0-9]{0,9})\z`).FindStringSubmatch(said)
	if parts == nil {
		return 0, false
	}
	_, isAddr := netAddr(parts[1])
	token, _ := strconv.Atoi(parts[2])
	return token, isAddr && token <= lastToken
}

func tokensWanted(c impl.Cluster) []int {
	list, told := []int{}, map[[2]int]bool{}
	eachTold(c, func(x impl.Command, said string) {
		key := [2]int{x.Session, x.Seq}
		if x.Kind != 7 && x.Kind != 8 || !strings.HasPrefix(said, "ok") || told[key] {
			return
		}
		told[key] = true
		if token, ok := tokenWanted(said); ok {
			list = append(list, token)
		}
	})
	return list
}

func hearingWanted(c impl.Cluster) hearing {
	h := hearing{commands: commandsWanted(c), expected: expectedWanted(c), told: []string{}, once: onceWanted(c), tokens: tokensWanted(c), replies: map[[2]int]string{}}
	eachTold(c, func(_ impl.Command, said string) { h.told = append(h.told, said) })
	for _, key := range askedKeys(c) {
		if reply, ok := replyWanted(c, key[0], key[1]); ok {
			h.replies[key] = reply
		}
	}
	return h
}

func hearingText(h hearing) string {
	lines := []string{}
	for _, x := range h.commands {
		lines = append(lines, textAny(x))
	}
	return fmt.Sprintf("commands %q, expected %q, told %q, once %v, tokens %v, replies %v", lines, h.expected, h.told, h.once, h.tokens, h.replies)
}

func sameHearing(t *testing.T, got hearing, want hearing) {
	t.Helper()
	if !slices.Equal(got.commands, want.commands) || hearingText(got) != hearingText(want) {
		t.Fatalf("got %s, not %s", hearingText(got), hearingText(want))
	}
}

// ownCommands asks twice, and writes over the first answer.
func ownCommands(t *testing.T, c impl.Cluster) {
	t.Helper()
	first := impl.Commands(c)
	was := slices.Clone(first)
	for i := range first[:cap(first)] {
		first[:cap(first)][i] = impl.Command{Kind: -1}
	}
	if second := impl.Commands(c); !slices.Equal(second, was) {
		t.Fatal("first these commands, then those:", was, second)
	}
}

// checkHearing asks all of it, with spare room behind each list, and writes over each answer.
func checkHearing(t *testing.T, c impl.Cluster) hearing {
	t.Helper()
	want := hearingWanted(c)
	askedCluster(t, c, func(x impl.Cluster) impl.Cluster {
		sameHearing(t, hearingOf(x), want)
		ownCommands(t, x)
		return impl.Cluster{Said: impl.Told(x), Group: impl.Group{Now: impl.Tokens(x)}}
	})
	askedCluster(t, c, func(x impl.Cluster) impl.Cluster { return impl.Cluster{Said: impl.Expected(x)} })
	return want
}

// checkHearingQuick asks the same without a look at the memory.
func checkHearingQuick(t *testing.T, c impl.Cluster) hearing {
	t.Helper()
	want := hearingWanted(c)
	sameHearing(t, hearingOf(c), want)
	return want
}

// What is no command of a kind, but an entry all the same.
const (
	isNoop  = -1
	isGroup = -2
	isOther = -3
	isJunk  = 0
)

// A talk is a request and what was said to it.
type talk struct {
	kind    int
	session int
	seq     int
	said    string
}

func (x talk) entry() impl.Entry {
	switch x.kind {
	case isNoop:
		return noop(1)
	case isGroup:
		return regroup(1, 7, 0)
	case isOther:
		return impl.Entry{Term: 1, Kind: 4, Data: bytesWanted(impl.Command{Kind: 1})}
	case isJunk:
		return asked(1, "no command")
	}
	form, _ := formOf(x.kind)
	c := plainCommand(form)
	if form.has("session") {
		c.Session = x.session
	}
	if form.has("seq") {
		c.Seq = x.seq
	}
	return asked(1, string(bytesWanted(c)))
}

func talked(list ...talk) impl.Cluster {
	c := newClusterOf(1)
	for _, x := range list {
		c.Done, c.Said = append(c.Done, x.entry()), append(c.Said, x.said)
	}
	return c
}

// kindsOfSeq are those that a session numbers.
func kindsOfSeq() []int {
	return []int{3, 4, 5, 6, 7, 8, 9, 10}
}

func TestCommandsTable(t *testing.T) {
	lines := []string{"open now=4", "time now=9", "grant session=1 seq=3 now=6 at=10.0.0.0/26 owner=ann span=90", "close session=7 now=2"}
	list := commandsOf(t, lines...)
	line := func(i int) impl.Entry { return asked(1+i, string(bytesWanted(list[i]))) }
	none := impl.Command{}
	for name, x := range map[string]struct {
		done []impl.Entry
		want []impl.Command
	}{
		"nothing":              {nil, nil},
		"empty":                {[]impl.Entry{}, nil},
		"one":                  {[]impl.Entry{line(0)}, list[:1]},
		"all, in order":        {[]impl.Entry{line(3), line(2), line(1), line(0)}, []impl.Command{list[3], list[2], list[1], list[0]}},
		"one twice":            {[]impl.Entry{line(2), line(2)}, []impl.Command{list[2], list[2]}},
		"others alone":         {[]impl.Entry{noop(1), regroup(1, 7, 0), noop(2)}, nil},
		"among others":         {[]impl.Entry{noop(1), line(0), regroup(1, 7, 0), line(1), noop(2)}, list[:2]},
		"ahead of others":      {[]impl.Entry{line(0), noop(1)}, list[:1]},
		"no command":           {[]impl.Entry{asked(1, "junk")}, []impl.Command{none}},
		"an empty one":         {[]impl.Entry{asked(1, "")}, []impl.Command{none}},
		"no bytes":             {[]impl.Entry{{Term: 1, Kind: 2}}, []impl.Command{none}},
		"a byte more":          {[]impl.Entry{asked(1, string(bytesWanted(list[0]))+"\x00")}, []impl.Command{none}},
		"a byte fewer":         {[]impl.Entry{asked(1, string(bytesWanted(list[0])[:5]))}, []impl.Command{none}},
		"none between":         {[]impl.Entry{line(0), asked(1, "junk"), line(1)}, []impl.Command{list[0], none, list[1]}},
		"bytes of other kinds": {[]impl.Entry{{Term: 1, Kind: 1, Data: bytesWanted(list[0])}, {Term: 1, Kind: 3, Data: bytesWanted(list[0])}}, nil},
		"kinds that are none":  {[]impl.Entry{{Term: 1, Kind: 0, Data: bytesWanted(list[0])}, {Kind: 4, Data: bytesWanted(list[0])}, {Kind: -2, Data: bytesWanted(list[0])}, {Kind: 1<<32 + 2, Data: bytesWanted(list[0])}}, nil},
		"a term that is none":  {[]impl.Entry{{Term: -5, Kind: 2, Data: bytesWanted(list[0])}}, list[:1]},
	} {
		for _, said := range [][]string{nil, slices.Repeat([]string{"ok"}, len(x.done)), slices.Repeat([]string{"ok"}, len(x.done)+2)} {
			c := impl.Cluster{Done: x.done, Said: said}
			if got := checkHearing(t, c); !slices.Equal(got.commands, x.want) || len(got.expected) != len(x.want) {
				t.Errorf("%s: %s", name, hearingText(got))
			}
		}
	}
}

func TestCommandsOfEachKind(t *testing.T) {
	c := impl.Cluster{}
	list := baseCommands()
	for i, x := range list {
		c.Done = append(c.Done, asked(1+i, string(bytesWanted(x))))
	}
	if got := impl.Commands(c); !slices.Equal(got, list) {
		t.Error(got)
	}
	checkHearing(t, c)
}

func TestExpectedTable(t *testing.T) {
	for name, x := range map[string]struct {
		lines []string
		want  []string
	}{
		"none":        {nil, nil},
		"one":         {[]string{"open now=4"}, []string{"session 1"}},
		"no command":  {[]string{"junk", "", "open"}, []string{"error form", "error form", "error form"}},
		"time goes":   {[]string{"time now=9", "time now=4", "junk", "time now=10"}, []string{"time 9", "time 9", "error form", "time 10"}},
		"no session":  {[]string{"close session=1 now=1", "free session=1 seq=1 now=1 at=10.0.0.0/26 owner=ann"}, []string{"error session", "error session"}},
		"many open":   {slices.Repeat([]string{"open now=4"}, 13), append(sessionsUpTo(12), "error sessions")},
		"with others": {[]string{"noop", "open now=4", "noop", "open now=5", "noop"}, []string{"session 1", "session 2"}},
		"a session": {
			append(someLines(), "take session=1 seq=4 now=6 host=10.0.0.9 owner=ann span=3", "grant session=1 seq=5 now=20 at=10.0.0.0/26 owner=bob span=3"),
			[]string{"session 1", "ok", "ok 10.0.0.0/26", "ok 10.0.0.0 1", "ok 10.0.0.9 2", "error block"},
		},
		"twice, ahead, and behind": {
			append(someLines(), someLines()[3], "release session=1 seq=9 now=6 host=10.0.0.0 token=1", someLines()[2], "release session=1 seq=4 now=6 host=10.0.0.0 token=1", "release session=1 seq=4 now=6 host=10.0.0.0 token=1"),
			[]string{"session 1", "ok", "ok 10.0.0.0/26", "ok 10.0.0.0 1", "ok 10.0.0.0 1", "error gap", "error old", "ok", "ok"},
		},
		"refused, and again": {
			[]string{"open now=1", "drop-pool session=1 seq=1 now=1 at=10.0.0.0/24", "drop-pool session=1 seq=1 now=1 at=10.0.0.0/24", "drop-pool session=2 seq=1 now=1 at=10.0.0.0/24"},
			[]string{"session 1", "error 4", "error 4", "error session"},
		},
	} {
		c := impl.Cluster{}
		for _, s := range x.lines {
			if s == "noop" {
				c.Done = append(c.Done, noop(1))
				continue
			}
			command, ok := commandOfText(s)
			data := s
			if ok {
				data = string(bytesWanted(command))
			}
			c.Done = append(c.Done, asked(1, data))
		}
		// What was said is not asked here.
		for _, said := range [][]string{nil, slices.Repeat([]string{"other"}, len(c.Done)), {"x"}} {
			c.Said = said
			if got := checkHearing(t, c); !slices.Equal(got.expected, x.want) {
				t.Errorf("%s: %q", name, got.expected)
			}
		}
	}
}

func sessionsUpTo(n int) []string {
	list := []string{}
	for id := range n {
		list = append(list, fmt.Sprint("session ", id+1))
	}
	return list
}

func TestToldTable(t *testing.T) {
	c := talked(talk{isNoop, 0, 0, "noop"}, talk{1, 0, 0, "session 1"}, talk{isGroup, 0, 0, "group"}, talk{7, 1, 1, ""}, talk{isJunk, 0, 0, "error form"}, talk{isOther, 0, 0, "other"}, talk{3, 1, 1, "ok"}, talk{11, 0, 0, "x\ny"}, talk{isNoop, 0, 0, "last"})
	want := []string{"session 1", "", "error form", "ok", "x\ny"}
	places := []int{1, 3, 4, 6, 7}
	for said := range len(c.Said) + 1 {
		short := withCluster(c, func(c *impl.Cluster) { c.Said = c.Said[:said] })
		reached := 0
		for _, place := range places {
			if place < said {
				reached++
			}
		}
		got := checkHearing(t, short)
		if !slices.Equal(got.told, want[:reached]) || len(got.commands) != len(want) {
			t.Errorf("%d said: %q", said, got.told)
		}
	}
	for more := range 4 {
		long := withCluster(c, func(c *impl.Cluster) { c.Said = append(c.Said, slices.Repeat([]string{"more"}, more)...) })
		if got := checkHearing(t, long); !slices.Equal(got.told, want) {
			t.Errorf("%d more: %q", more, got.told)
		}
	}
	for done := range len(c.Done) {
		short := withCluster(c, func(c *impl.Cluster) { c.Done = c.Done[:done] })
		checkHearing(t, short)
	}
	if got := checkHearing(t, impl.Cluster{Said: []string{"ok", "ok"}}); len(got.told) != 0 || !got.once {
		t.Error(hearingText(got))
	}
}

func TestReplyToAndOnceTable(t *testing.T) {
	type replies = map[[2]int]string
	for name, x := range map[string]struct {
		list []talk
		once bool
		want replies
	}{
		"none":                         {nil, true, replies{}},
		"others alone":                 {[]talk{{isNoop, 0, 0, ""}, {isGroup, 0, 0, "ok"}, {isOther, 1, 1, "ok"}}, true, replies{}},
		"one":                          {[]talk{{7, 1, 1, "ok 10.0.0.0 1"}}, true, replies{{1, 1}: "ok 10.0.0.0 1"}},
		"twice the same":               {[]talk{{7, 1, 1, "ok"}, {7, 1, 1, "ok"}}, true, replies{{1, 1}: "ok"}},
		"twice otherwise":              {[]talk{{7, 1, 1, "ok"}, {7, 1, 1, "error 11"}}, false, replies{{1, 1}: "ok"}},
		"otherwise, the other way":     {[]talk{{7, 1, 1, "error 11"}, {7, 1, 1, "ok"}}, false, replies{{1, 1}: "error 11"}},
		"a beginning of it":            {[]talk{{7, 1, 1, "ok 1"}, {7, 1, 1, "ok"}}, false, replies{{1, 1}: "ok 1"}},
		"thrice":                       {[]talk{{3, 2, 5, "ok"}, {3, 2, 5, "ok"}, {3, 2, 5, "ok"}}, true, replies{{2, 5}: "ok"}},
		"thrice, the last otherwise":   {[]talk{{3, 2, 5, "ok"}, {3, 2, 5, "ok"}, {3, 2, 5, "no"}}, false, replies{{2, 5}: "ok"}},
		"thrice, one otherwise":        {[]talk{{3, 2, 5, "ok"}, {3, 2, 5, "no"}, {3, 2, 5, "ok"}}, false, replies{{2, 5}: "ok"}},
		"no session first":             {[]talk{{5, 1, 1, "error session"}, {5, 1, 1, "ok"}}, true, replies{{1, 1}: "ok"}},
		"old first":                    {[]talk{{5, 1, 1, "error old"}, {5, 1, 1, "ok"}}, true, replies{{1, 1}: "ok"}},
		"a gap first":                  {[]talk{{5, 1, 1, "error gap"}, {5, 1, 1, "ok"}}, true, replies{{1, 1}: "ok"}},
		"all three first":              {[]talk{{5, 1, 1, "error gap"}, {5, 1, 1, "error old"}, {5, 1, 1, "error session"}, {5, 1, 1, "ok"}}, true, replies{{1, 1}: "ok"}},
		"a gap first, then otherwise":  {[]talk{{5, 1, 1, "error gap"}, {5, 1, 1, "ok"}, {5, 1, 1, "no"}}, false, replies{{1, 1}: "ok"}},
		"in between":                   {[]talk{{5, 1, 1, "ok"}, {5, 1, 1, "error gap"}, {5, 1, 1, "ok"}, {5, 1, 1, "error old"}, {5, 1, 1, "error session"}}, true, replies{{1, 1}: "ok"}},
		"in between, and otherwise":    {[]talk{{5, 1, 1, "ok"}, {5, 1, 1, "error session"}, {5, 1, 1, "no"}}, false, replies{{1, 1}: "ok"}},
		"nothing else":                 {[]talk{{5, 1, 1, "error gap"}, {5, 1, 1, "error old"}, {5, 1, 1, "error session"}}, true, replies{}},
		"they go on":                   {[]talk{{5, 1, 1, "error sessions"}, {5, 1, 2, "error older"}, {5, 1, 3, "error gap 7"}, {5, 1, 4, "error gaps"}}, true, replies{}},
		"they go on, then not":         {[]talk{{5, 1, 1, "error sessions"}, {5, 1, 1, "error older"}, {5, 1, 1, "error gap 7"}, {5, 1, 1, "x"}}, true, replies{{1, 1}: "x"}},
		"they begin so":                {[]talk{{5, 1, 1, "error"}, {5, 1, 2, "error ga"}, {5, 1, 3, "error ol"}, {5, 1, 4, "error sessio"}, {5, 1, 5, ""}}, true, replies{{1, 1}: "error", {1, 2}: "error ga", {1, 3}: "error ol", {1, 4}: "error sessio", {1, 5}: ""}},
		"they are within":              {[]talk{{5, 1, 1, " error gap"}, {5, 1, 2, "ok error old"}, {5, 1, 3, "Error session"}, {5, 1, 4, "error  gap"}, {5, 1, 5, "old"}, {5, 1, 6, "ok error session"}, {5, 1, 7, "ok error gap"}}, true, replies{{1, 1}: " error gap", {1, 2}: "ok error old", {1, 3}: "Error session", {1, 4}: "error  gap", {1, 5}: "old", {1, 6}: "ok error session", {1, 7}: "ok error gap"}},
		"other errors":                 {[]talk{{5, 1, 1, "error form"}, {5, 1, 2, "error block"}, {5, 1, 2, "error block"}, {6, 1, 3, "error leased"}, {7, 1, 4, "error 12"}}, true, replies{{1, 1}: "error form", {1, 2}: "error block", {1, 3}: "error leased", {1, 4}: "error 12"}},
		"an empty one":                 {[]talk{{5, 1, 1, ""}, {5, 1, 1, ""}}, true, replies{{1, 1}: ""}},
		"an empty one, then otherwise": {[]talk{{5, 1, 1, ""}, {5, 1, 1, "ok"}}, false, replies{{1, 1}: ""}},
		"then an empty one":            {[]talk{{5, 1, 1, "ok"}, {5, 1, 1, ""}}, false, replies{{1, 1}: "ok"}},
		"other sessions":               {[]talk{{7, 1, 1, "a"}, {7, 2, 1, "b"}, {7, 3, 1, "c"}, {7, 2, 1, "b"}}, true, replies{{1, 1}: "a", {2, 1}: "b", {3, 1}: "c"}},
		"other sessions, one twice":    {[]talk{{7, 1, 1, "a"}, {7, 2, 1, "b"}, {7, 2, 1, "a"}}, false, replies{{1, 1}: "a", {2, 1}: "b"}},
		"other numbers":                {[]talk{{7, 1, 1, "a"}, {7, 1, 2, "b"}, {7, 1, 3, "c"}, {7, 1, 2, "b"}}, true, replies{{1, 1}: "a", {1, 2}: "b", {1, 3}: "c"}},
		"other numbers, one twice":     {[]talk{{7, 1, 1, "a"}, {7, 1, 2, "b"}, {7, 1, 2, "a"}}, false, replies{{1, 1}: "a", {1, 2}: "b"}},
		"numbers the other way round":  {[]talk{{7, 1, 2, "a"}, {7, 2, 1, "b"}, {7, 11, 1, "c"}, {7, 1, 11, "d"}}, true, replies{{1, 2}: "a", {2, 1}: "b", {11, 1}: "c", {1, 11}: "d"}},
		"other kinds, one request":     {[]talk{{7, 1, 1, "a"}, {9, 1, 1, "a"}, {3, 1, 1, "a"}}, true, replies{{1, 1}: "a"}},
		"other kinds, otherwise":       {[]talk{{7, 1, 1, "a"}, {9, 1, 1, "b"}}, false, replies{{1, 1}: "a"}},
		"without a number":             {[]talk{{1, 0, 0, "session 1"}, {1, 0, 0, "session 2"}, {11, 0, 0, "time 4"}, {11, 0, 0, "time 5"}, {2, 1, 0, "closed"}, {2, 1, 0, "other"}}, true, replies{}},
		"no commands":                  {[]talk{{isJunk, 0, 0, "error form"}, {isJunk, 0, 0, "ok"}}, true, replies{}},
		"said to others":               {[]talk{{5, 1, 1, "ok"}, {isNoop, 1, 1, "no"}, {isGroup, 1, 1, "no"}, {isOther, 1, 1, "no"}, {isJunk, 1, 1, "no"}, {2, 1, 0, "no"}}, true, replies{{1, 1}: "ok"}},
		"the greatest":                 {[]talk{{10, lastSession, lastSeq, "a"}, {10, lastSession, lastSeq, "a"}, {10, lastSession, lastSeq - 1, "b"}}, true, replies{{lastSession, lastSeq}: "a", {lastSession, lastSeq - 1}: "b"}},
		"the greatest, otherwise":      {[]talk{{10, lastSession, lastSeq, "a"}, {10, lastSession, lastSeq, "b"}}, false, replies{{lastSession, lastSeq}: "a"}},
	} {
		got := checkHearing(t, talked(x.list...))
		if got.once != x.once || fmt.Sprint(got.replies) != fmt.Sprint(x.want) {
			t.Errorf("%s: once %v, %v", name, got.once, got.replies)
		}
	}
}

// Each kind, by itself and behind each other one.
func TestReplyToEachKind(t *testing.T) {
	for kind := 1; kind <= 11; kind++ {
		isNumbered := slices.Contains(kindsOfSeq(), kind)
		c := talked(talk{kind, 4, 7, "one"})
		if reply, ok := impl.ReplyTo(c, 4, 7); ok != isNumbered || ok && reply != "one" {
			t.Error(kind, reply, ok)
		}
		for other := 1; other <= 11; other++ {
			c := talked(talk{kind, 4, 7, "one"}, talk{other, 4, 7, "two"})
			bothNumbered := isNumbered && slices.Contains(kindsOfSeq(), other)
			if got := checkHearingQuick(t, c); got.once == bothNumbered {
				t.Error(kind, other, hearingText(got))
			}
		}
	}
}

// A command that Said does not reach was told nothing: neither what was told first, nor something else.
func TestWhatSaidDoesNotReach(t *testing.T) {
	c := talked(talk{7, 1, 1, "ok 10.0.0.0 1"}, talk{7, 1, 2, "ok 10.0.0.1 2"}, talk{7, 1, 1, "ok 10.0.0.0 1"}, talk{7, 1, 2, "no"}, talk{8, 1, 3, "ok 10.0.0.2 3"})
	for said, want := range []hearing{
		{once: true, replies: map[[2]int]string{}},
		{once: true, tokens: []int{1}, replies: map[[2]int]string{{1, 1}: "ok 10.0.0.0 1"}},
		{once: true, tokens: []int{1, 2}, replies: map[[2]int]string{{1, 1}: "ok 10.0.0.0 1", {1, 2}: "ok 10.0.0.1 2"}},
		{once: true, tokens: []int{1, 2}, replies: map[[2]int]string{{1, 1}: "ok 10.0.0.0 1", {1, 2}: "ok 10.0.0.1 2"}},
		{once: false, tokens: []int{1, 2}, replies: map[[2]int]string{{1, 1}: "ok 10.0.0.0 1", {1, 2}: "ok 10.0.0.1 2"}},
		{once: false, tokens: []int{1, 2, 3}, replies: map[[2]int]string{{1, 1}: "ok 10.0.0.0 1", {1, 2}: "ok 10.0.0.1 2", {1, 3}: "ok 10.0.0.2 3"}},
	} {
		short := withCluster(c, func(c *impl.Cluster) { c.Said = c.Said[:said] })
		got := checkHearing(t, short)
		if got.once != want.once || !slices.Equal(got.tokens, want.tokens) || fmt.Sprint(got.replies) != fmt.Sprint(want.replies) {
			t.Errorf("%d said: %s", said, hearingText(got))
		}
	}
}

// leaseReplies are what a grant may be told, and the token of it, or 0.
func leaseReplies() map[string]int {
	list := map[string]int{
		"ok 10.0.0.0 1": 1, "ok 10.0.0.0 9": 9, "ok 10.0.0.0 10": 10, "ok 0.0.0.0 5": 5, "ok 255.255.255.255 77": 77,
		"ok 2001:db8:: 7": 7, "ok :: 3": 3, "ok ::1 4": 4, "ok 1:2:3:4:5:6:7:8 5": 5, "ok ffff:: 6": 6,
		"ok 10.0.0.0 999999999": 999999999, "ok 10.0.0.0 1000000000": lastToken,
	}
	for _, said := range []string{
		"", "o", "ok", "ok ", "ok  ", "okay", "ok 1", "ok 10.0.0.0", "ok 10.0.0.0 ", "ok  1", "ok  10.0.0.0 1", "ok 10.0.0.0  1", "ok 10.0.0.0 1 ", " ok 10.0.0.0 1",
		"okay 10.0.0.0 1", "OK 10.0.0.0 1", "10.0.0.0 1", "ok10.0.0.0 1", "ok\t10.0.0.0 1", "ok 10.0.0.0\t1", "ok 10.0.0.0 1\n", "ok 10.0.0.0 1\x00", "ok ok 10.0.0.0 1",
		"ok 10.0.0.0/26", "ok 10.0.0.0/26 1", "ok 10.0.0.0 1/1", "ok 10.0.0.0 1 2", "ok 10.0.0.0 10.0.0.1", "ok 1 10.0.0.0", "ok 10.0.0.0,1",
		"ok 10.0.0.0 0", "ok 10.0.0.0 -1", "ok 10.0.0.0 +1", "ok 10.0.0.0 01", "ok 10.0.0.0 00", "ok 10.0.0.0 x", "ok 10.0.0.0 1x", "ok 10.0.0.0 0x1", "ok 10.0.0.0 1e3", "ok 10.0.0.0 1_0", "ok 10.0.0.0 1.0", "ok 10.0.0.0 ١",
		"ok 10.0.0.0 1000000001", "ok 10.0.0.0 4294967297", "ok 10.0.0.0 9223372036854775807", "ok 10.0.0.0 9223372036854775809", "ok 10.0.0.0 18446744073709551617", "ok 10.0.0.0 99999999999999999999",
		"ok x 5", "ok 10.0.0 5", "ok 10.0.0.256 5", "ok 010.0.0.0 5", "ok 10.0.0.0.0 5", "ok 2001:DB8:: 5", "ok 2001:db8::0 5", "ok 0:0:0:0:0:0:0:0 5", "ok fe80::1%a 5", "ok ::ffff:10.0.0.1 x",
		"error 11", "error block", "error empty", "error 10", "error form", "error session", "error old", "error gap", "session 1", "closed", "time 5",
	} {
		list[said] = 0
	}
	return list
}

func TestTokensOfEachReply(t *testing.T) {
	for said, token := range leaseReplies() {
		for kind := isGroup; kind <= 11; kind++ {
			want := []int{}
			if token > 0 && (kind == 7 || kind == 8) {
				want = append(want, token)
			}
			call := checkHearingQuick
			if kind >= 6 && kind <= 8 {
				call = checkHearing
			}
			if got := call(t, talked(talk{kind, 1, 1, said})); !slices.Equal(got.tokens, want) {
				t.Errorf("kind %d, told %q: %v", kind, said, got.tokens)
			}
		}
	}
}

func TestTokensTable(t *testing.T) {
	const one, two, three = "ok 10.0.0.0 1", "ok 10.0.0.1 2", "ok 10.0.0.2 3"
	for name, x := range map[string]struct {
		list []talk
		want []int
	}{
		"none":                      {nil, nil},
		"in order":                  {[]talk{{7, 1, 1, one}, {8, 1, 2, two}, {7, 1, 3, three}}, []int{1, 2, 3}},
		"not sorted":                {[]talk{{7, 1, 1, three}, {8, 1, 2, one}, {7, 1, 3, two}}, []int{3, 1, 2}},
		"one token of two requests": {[]talk{{7, 1, 1, one}, {7, 1, 2, one}}, []int{1, 1}},
		"twice":                     {[]talk{{7, 1, 1, one}, {7, 1, 1, one}}, []int{1}},
		"twice, far apart":          {[]talk{{7, 1, 1, one}, {7, 1, 2, two}, {7, 1, 3, three}, {7, 1, 1, one}, {7, 1, 3, three}}, []int{1, 2, 3}},
		"twice, otherwise":          {[]talk{{7, 1, 1, one}, {7, 1, 1, two}}, []int{1}},
		"twice, by both kinds":      {[]talk{{8, 1, 1, one}, {7, 1, 1, one}}, []int{1}},
		"in two sessions":           {[]talk{{7, 1, 1, one}, {7, 2, 1, two}, {7, 1, 1, one}}, []int{1, 2}},
		"numbers turned round":      {[]talk{{7, 1, 2, one}, {7, 2, 1, two}}, []int{1, 2}},
		"a gap ahead":               {[]talk{{7, 1, 1, "error gap"}, {7, 1, 1, one}, {7, 1, 1, one}}, []int{1}},
		"all three ahead":           {[]talk{{7, 1, 1, "error session"}, {7, 1, 1, "error gap"}, {7, 1, 1, "error old"}, {7, 1, 1, one}}, []int{1}},
		"refused, then not":         {[]talk{{7, 1, 1, "error 11"}, {7, 1, 1, one}}, []int{1}},
		"old behind":                {[]talk{{7, 1, 1, one}, {7, 1, 1, "error old"}, {7, 1, 2, two}}, []int{1, 2}},
		"another kind ahead":        {[]talk{{5, 1, 1, one}, {7, 1, 1, one}}, []int{1}},
		"another kind between":      {[]talk{{7, 1, 1, one}, {5, 1, 1, one}, {9, 1, 2, two}, {8, 1, 2, two}}, []int{1, 2}},
		"told of another kind":      {[]talk{{5, 1, 1, "ok 10.0.0.0/26"}, {7, 1, 1, "ok 10.0.0.0/26"}, {10, 1, 2, "ok"}, {8, 1, 2, "ok"}, {8, 1, 3, three}}, []int{3}},
		"an ok ahead":               {[]talk{{7, 1, 1, "ok"}, {7, 1, 1, one}, {7, 1, 2, two}}, []int{2}},
		"others":                    {[]talk{{isNoop, 1, 1, one}, {isGroup, 1, 1, one}, {isOther, 1, 1, one}, {isJunk, 1, 1, one}, {1, 1, 1, one}, {2, 1, 1, one}, {11, 1, 1, one}}, nil},
		"refusals alone":            {[]talk{{7, 1, 1, "error 11"}, {7, 1, 2, "error empty"}, {8, 1, 3, "error 12"}, {8, 1, 4, ""}}, nil},
	} {
		if got := checkHearing(t, talked(x.list...)); !slices.Equal(got.tokens, x.want) {
			t.Errorf("%s: %v", name, got.tokens)
		}
	}
}

// Each row of up to four of a few talks, so that each comes ahead of each other one, and behind it.
func TestHearingOfEachShortRow(t *testing.T) {
	list := []talk{{7, 1, 1, "ok 10.0.0.0 1"}, {7, 1, 1, "ok 10.0.0.1 2"}, {8, 1, 1, "error gap"}, {7, 1, 2, "ok 10.0.0.1 2"}, {5, 1, 1, "ok 10.0.0.0/26"}, {8, 2, 1, "ok"}, {isNoop, 0, 0, ""}, {7, 1, 1, "error 11"}}
	places := []int{}
	for i := range list {
		places = append(places, i)
	}
	once := map[bool]int{}
	eachShortRow(places, 4, func(row []int) {
		c := impl.Cluster{}
		for _, i := range row {
			c.Done, c.Said = append(c.Done, list[i].entry()), append(c.Said, list[i].said)
		}
		h := hearing{told: impl.Told(c), once: impl.Once(c), tokens: impl.Tokens(c)}
		h.replies = map[[2]int]string{}
		if reply, ok := impl.ReplyTo(c, 1, 1); ok {
			h.replies[[2]int{1, 1}] = reply
		}
		want := hearing{told: []string{}, once: onceWanted(c), tokens: tokensWanted(c), replies: map[[2]int]string{}}
		eachTold(c, func(_ impl.Command, said string) { want.told = append(want.told, said) })
		if reply, ok := replyWanted(c, 1, 1); ok {
			want.replies[[2]int{1, 1}] = reply
		}
		sameHearing(t, h, want)
		once[h.once]++
	})
	if once[true] < 1000 || once[false] < 1000 {
		t.Error(once)
	}
}

func someTalk(chance *rand.Rand, replies []string) talk {
	kind := pickedOf(chance, 7, 7, 8, 8, 3, 5, 10, 1+chance.Intn(11), isNoop, isGroup, isJunk)
	return talk{kind, 1 + chance.Intn(3), 1 + chance.Intn(4), pickedOf(chance, replies...)}
}

// Said may be shorter or longer than Done; some of the bytes are those of no command.
func someTalked(chance *rand.Rand, replies []string) impl.Cluster {
	list := []talk{}
	for range chance.Intn(14) {
		list = append(list, someTalk(chance, replies))
	}
	c := talked(list...)
	if chance.Intn(4) == 0 {
		c.Said = append(c.Said, pickedOf(chance, replies...))
		c.Said = c.Said[:chance.Intn(len(c.Said)+1)]
	}
	for i, e := range c.Done {
		if len(e.Data) > 0 && chance.Intn(15) == 0 {
			c.Done[i].Data = e.Data[:len(e.Data)-1]
		}
	}
	return c
}

func fewReplies() []string {
	return []string{"ok", "ok 10.0.0.0 1", "ok 10.0.0.1 2", "ok 10.0.0.0/26", "error gap", "error old", "error session", "error sessions", "error 11", ""}
}

func TestHearingOfAnyTalks(t *testing.T) {
	counts := map[string]int{}
	all := []string{}
	for said := range leaseReplies() {
		all = append(all, said)
	}
	slices.Sort(all)
	for seed := range 1800 {
		chance := rand.New(rand.NewSource(int64(seed)))
		replies := fewReplies()
		switch seed % 3 {
		case 0:
			replies = []string{"ok 10.0.0.0 1", "ok 10.0.0.0 1", "error gap"}
		case 1:
			replies = append(replies, all...)
		}
		call := checkHearingQuick
		if seed%5 == 0 {
			call = checkHearing
		}
		h := call(t, someTalked(chance, replies))
		counts[fmt.Sprint("once ", h.once)]++
		counts[fmt.Sprint(min(3, len(h.tokens)), " tokens")]++
		if len(h.told) != len(h.commands) {
			counts["short"]++
		}
	}
	for _, what := range []string{"once true", "once false", "0 tokens", "1 tokens", "2 tokens", "3 tokens", "short"} {
		if counts[what] < 50 {
			t.Error("hardly ever seen:", what, counts)
		}
	}
}

// What is asked of one cluster is answered of it alone, whatever was asked ahead.
func TestHearingsStayApart(t *testing.T) {
	chance := rand.New(rand.NewSource(1))
	clusters, wanted := []impl.Cluster{}, []hearing{}
	for range 30 {
		c := someTalked(chance, fewReplies())
		clusters, wanted = append(clusters, c), append(wanted, hearingWanted(c))
	}
	clusters, wanted = append(clusters, impl.Cluster{}), append(wanted, hearingWanted(impl.Cluster{}))
	for range 20000 {
		i := chance.Intn(len(clusters))
		c, want := clusters[i], wanted[i]
		switch chance.Intn(4) {
		case 0:
			key := [2]int{chance.Intn(4), chance.Intn(5)}
			told, isTold := replyWanted(c, key[0], key[1])
			if reply, ok := impl.ReplyTo(c, key[0], key[1]); ok != isTold || reply != told {
				t.Fatalf("%v: %q, %v, not %q, %v", key, reply, ok, told, isTold)
			}
		case 1:
			if impl.Once(c) != want.once {
				t.Fatal("once:", i)
			}
		case 2:
			if got := impl.Tokens(c); !slices.Equal(got, want.tokens) {
				t.Fatal(i, got, want.tokens)
			}
		default:
			if got := impl.Told(c); !slices.Equal(got, want.told) {
				t.Fatal(i, got, want.told)
			}
		}
	}
}

// Whether a cluster is right is not asked: what was asked and said is there all the same.
func TestHearingOfWrongClusters(t *testing.T) {
	list := wrongChanges(t)
	for name, change := range rightChanges() {
		list["right: "+name] = change
	}
	for _, change := range list {
		checkHearing(t, withCluster(midway(t), change))
	}
	if h := checkHearing(t, impl.Cluster{}); len(h.commands)+len(h.expected)+len(h.told)+len(h.tokens)+len(h.replies) > 0 || !h.once {
		t.Error(hearingText(h))
	}
	zeros := impl.Cluster{Done: make([]impl.Entry, 3), Said: make([]string, 3)}
	if h := checkHearing(t, zeros); len(h.told) != 0 {
		t.Error(hearingText(h))
	}
	// More than a right one has.
	many := impl.Cluster{}
	for i := range 3 * mostHistory {
		x := talk{7, 1 + i%7, 1 + i/7, fmt.Sprintf("ok 10.0.0.0 %d", i+1)}
		many.Done, many.Said = append(many.Done, x.entry()), append(many.Said, x.said)
	}
	if tokens := impl.Tokens(many); len(tokens) != 3*mostHistory || tokens[0] != 1 || !slices.IsSorted(tokens) || !impl.Once(many) || len(impl.Told(many)) != 3*mostHistory {
		t.Error(len(tokens))
	}
	many.Done, many.Said = append(many.Done, many.Done[5]), append(many.Said, "ok 10.0.0.0 7")
	if tokens := impl.Tokens(many); len(tokens) != 3*mostHistory || impl.Once(many) || len(impl.Expected(many)) != 3*mostHistory+1 {
		t.Error(len(tokens))
	}
}

// clients ask what they asked ahead, again and again, and ahead of their turn.
type clients struct {
	chance *rand.Rand
	asked  [][]byte
}

func (x *clients) next(data []byte) []byte {
	switch n := x.chance.Intn(12); {
	case n < 3 && len(x.asked) > 0:
		data = x.asked[len(x.asked)-1-x.chance.Intn(min(6, len(x.asked)))]
	case n == 3 && len(x.asked) > 0:
		data = pickedOf(x.chance, x.asked...)
	case n == 4:
		if c, ok := commandOfBytes(data); ok && c.Seq > 0 {
			c.Seq += pickedOf(x.chance, 1, 1, 2)
			data = bytesWanted(c)
		}
	}
	x.asked = append(x.asked, data)
	return data
}

// lookedAtReplies counts what was seen: of each request what it was told, one behind the other.
func lookedAtReplies(c impl.Cluster, seen map[string]int) {
	told := map[[2]int][]string{}
	eachTold(c, func(x impl.Command, said string) {
		if key := [2]int{x.Session, x.Seq}; x.Seq > 0 {
			told[key] = append(told[key], said)
		}
	})
	for _, list := range told {
		count := func(what string, did bool) {
			if did {
				seen[what]++
			}
		}
		last := list[len(list)-1]
		count("twice", len(list) > 1 && list[0] == last && !notTaken(last))
		count("a token twice", len(list) > 1 && list[0] == last && strings.Count(last, " ") == 2 && last[:2] == "ok")
		count("a gap, then taken", list[0] == "error gap" && slices.ContainsFunc(list, func(s string) bool { return !notTaken(s) }))
		count("taken, then old", last == "error old" && !notTaken(list[0]))
		count("taken, then no session", last == "error session" && !notTaken(list[0]))
		count("an error twice", len(list) > 1 && list[0] == last && last[:2] == "er" && !notTaken(last))
	}
}

// checkPromise18 is what holds of every cluster that ClusterNew made. That no token is left out holds, too, as each that was given was told.
func checkPromise18(t *testing.T, c impl.Cluster) []int {
	t.Helper()
	if told, expected := impl.Told(c), impl.Expected(c); !slices.Equal(told, expected) {
		t.Fatalf("told %q, not %q", told, expected)
	}
	if !impl.Once(c) {
		t.Fatalf("not once: %q", impl.Told(c))
	}
	s, _ := impl.Steps(impl.StateNew(), impl.Commands(c))
	tokens := impl.Tokens(c)
	if !slices.Equal(tokens, upTo(s.Book.Token)) {
		t.Fatalf("tokens %v, not 1 to %d", tokens, s.Book.Token)
	}
	return tokens
}

// Promise 18: of a cluster that ClusterNew made, whatever events were handed in, and whatever clients ask.
func TestClientsAreToldWhatOneMachineTells(t *testing.T) {
	seen := map[string]int{}
	for seed := range 56 {
		n := 1 + seed%mostNodes
		c, _ := impl.ClusterNew(n, upTo(max(1, n-seed%3)))
		w := newClusterWalker(2000+seed, c, seen)
		all := &clients{chance: rand.New(rand.NewSource(int64(seed)))}
		for step := range 420 {
			before, e := w.c, w.someEvent(seed%4 > 0)
			if e.Kind == impl.EvPropose {
				e.Data = all.next(e.Data)
			}
			got, ok := impl.Do(before, e)
			w.c = got
			w.noted(e, before, ok)
			if step%30 == 0 {
				checkPromise18(t, w.c)
			}
		}
		seen["tokens"] += len(checkPromise18(t, w.c))
		checkHearing(t, w.c)
		lookedAtReplies(w.c, seen)
	}
	for _, what := range []string{"tokens", "twice", "a token twice", "a gap, then taken", "taken, then old", "taken, then no session", "an error twice", "a snapshot came", "started with a snapshot", "entries taken away", "joint", "settled"} {
		if seen[what] < 5 {
			t.Error("hardly ever seen:", what, seen)
		}
	}
}

// Of such a cluster one thing is told otherwise, at each place: that it is so is told, too, and what stands elsewhere is as it was.
func TestWhatIsToldOtherwise(t *testing.T) {
	lines := slices.Concat(someLines(), someLines()[1:], []string{"take session=1 seq=5 now=7 host=10.0.0.7 owner=ann span=4", "take session=1 seq=4 now=7 host=10.0.0.7 owner=ann span=4", "take session=1 seq=4 now=7 host=10.0.0.7 owner=ann span=4"})
	c := asks(t, ledBy(t, 3, 1), lines...)
	want := []string{"session 1", "ok", "ok 10.0.0.0/26", "ok 10.0.0.0 1", "error old", "error old", "ok 10.0.0.0 1", "error gap", "ok 10.0.0.7 2", "ok 10.0.0.7 2"}
	if h := checkHearing(t, c); !slices.Equal(h.told, want) || !slices.Equal(h.expected, want) || !slices.Equal(h.tokens, []int{1, 2}) || !h.once {
		t.Fatal(hearingText(h))
	}
	for place := range c.Said {
		for _, said := range []string{"other", "error gap", "ok 10.0.0.0 1", "ok 10.0.0.9 9", ""} {
			broken := withCluster(c, func(c *impl.Cluster) { c.Said[place] = said })
			h := checkHearing(t, broken)
			if isTold := c.Done[place].Kind == 2 && c.Said[place] != said; slices.Equal(h.told, h.expected) == isTold {
				t.Errorf("%d, %q: %s", place, said, hearingText(h))
			}
		}
	}
	for place, e := range c.Done {
		broken := withCluster(c, func(c *impl.Cluster) { c.Done[place] = asked(1, "junk") })
		if h := checkHearing(t, broken); slices.Equal(h.told, h.expected) && e.Kind == 2 {
			t.Errorf("%d: %s", place, hearingText(h))
		}
	}
}
