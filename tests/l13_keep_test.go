package tests

import (
	"bytes"
	"fmt"
	"math"
	"math/rand"
	"slices"
	"strings"
	"testing"

	"loop.example/g00113/impl"
)

const (
	mostLog      = 120
	mostData     = 20000
	lastTerm     = 1000000
	lastBase     = 1000000
	mostCommand  = 400
	longestFrame = 20000
)

func noop(term int) impl.Entry {
	return impl.Entry{Term: term, Kind: 1}
}

func asked(term int, data string) impl.Entry {
	return impl.Entry{Term: term, Kind: 2, Data: []byte(data)}
}

func regroup(term int, now byte, next byte) impl.Entry {
	return impl.Entry{Term: term, Kind: 3, Data: []byte{now, next}}
}

// kept has a snapshot up to base, of baseTerm, and the group 1 2 3.
func kept(term int, vote int, base int, baseTerm int, snap string, log ...impl.Entry) impl.Keep {
	return impl.Keep{Term: term, Vote: vote, Base: base, BaseTerm: baseTerm, Group: groupOf([]int{1, 2, 3}), Snap: []byte(snap), Log: log}
}

// noops are so many entries of one term.
func noops(term int, count int) []impl.Entry {
	return slices.Repeat([]impl.Entry{noop(term)}, count)
}

func entryText(e impl.Entry) string {
	if len(e.Data) > 20 {
		return fmt.Sprintf("%d.%d:(%d bytes)", e.Term, e.Kind, len(e.Data))
	}
	return fmt.Sprintf("%d.%d:%q", e.Term, e.Kind, e.Data)
}

func keepText(k impl.Keep) string {
	words := []string{fmt.Sprintf("{term %d, vote %d, base %d of %d, %v %v", k.Term, k.Vote, k.Base, k.BaseTerm, k.Group.Now, k.Group.Next)}
	if len(k.Snap) > 20 {
		words = append(words, fmt.Sprintf("snap of %d bytes", len(k.Snap)))
	} else {
		words = append(words, fmt.Sprintf("snap %q", k.Snap))
	}
	for i, e := range k.Log {
		if i == 8 {
			words = append(words, fmt.Sprintf(".. %d entries", len(k.Log)))
			break
		}
		words = append(words, entryText(e))
	}
	return strings.Join(words, " ") + "}"
}

func sameEntry(a impl.Entry, b impl.Entry) bool {
	return a.Term == b.Term && a.Kind == b.Kind && bytes.Equal(a.Data, b.Data)
}

// sameKeep takes lists without elements and nil for the same.
func sameKeep(a impl.Keep, b impl.Keep) bool {
	numbers := a.Term == b.Term && a.Vote == b.Vote && a.Base == b.Base && a.BaseTerm == b.BaseTerm
	return numbers && sameGroup(a.Group, b.Group) && bytes.Equal(a.Snap, b.Snap) && slices.EqualFunc(a.Log, b.Log, sameEntry)
}

func cloneKeep(k impl.Keep) impl.Keep {
	k.Group = cloneGroup(k.Group)
	k.Snap = slices.Clone(k.Snap)
	k.Log = slices.Clone(k.Log)
	for i := range k.Log {
		k.Log[i].Data = slices.Clone(k.Log[i].Data)
	}
	return k
}

func entryRight(e impl.Entry) bool {
	if !isWithin(e.Term, 1, lastTerm) {
		return false
	}
	switch e.Kind {
	case 1:
		return len(e.Data) == 0
	case 2:
		return len(e.Data) <= mostCommand
	case 3:
		return len(e.Data) == 2 && isWithin(int(e.Data[0]), 1, 127) && isWithin(int(e.Data[1]), 0, 127)
	}
	return false
}

// keepRight asks each entry beside all that stand ahead of it. The entry Base has a term as every entry has: 0 of 0 alone. No entry has an index behind the last one.
func keepRight(k impl.Keep) bool {
	if !isWithin(k.Term, 0, lastTerm) || !isWithin(k.Vote, 0, mostNodes) || !isWithin(k.Base, 0, lastBase) {
		return false
	}
	if k.Base == 0 && (k.BaseTerm != 0 || len(k.Snap) != 0) {
		return false
	}
	if k.Base != 0 && !isWithin(k.BaseTerm, 1, k.Term) {
		return false
	}
	if !groupRight(k.Group) || len(k.Snap) > mostData || len(k.Log) > mostLog || lastOf(k) > lastBase {
		return false
	}
	for i, e := range k.Log {
		if !entryRight(e) || !isWithin(e.Term, k.BaseTerm, k.Term) {
			return false
		}
		for _, ahead := range k.Log[:i] {
			if ahead.Term > e.Term {
				return false
			}
		}
	}
	return true
}

// entriesOf are those of k whose index is as asked.
func entriesOf(k impl.Keep, take func(index int) bool) []impl.Entry {
	list := []impl.Entry{}
	for i, e := range k.Log {
		if take(k.Base + 1 + i) {
			list = append(list, e)
		}
	}
	return list
}

func lastOf(k impl.Keep) int {
	return k.Base + len(k.Log)
}

// entryAt is false of an index that k has no entry of in its log.
func entryAt(k impl.Keep, index int) (impl.Entry, bool) {
	list := entriesOf(k, func(at int) bool { return at == index })
	if len(list) == 0 {
		return impl.Entry{}, false
	}
	return list[0], true
}

func numsBytes(list ...int) []byte {
	b := []byte{}
	for _, n := range list {
		b = append(b, numBytes(n)...)
	}
	return b
}

func textBytes(b []byte) []byte {
	return append(numBytes(len(b)), b...)
}

func voteInner(term int, vote int) []byte {
	return numsBytes(1, term, vote)
}

func entryInner(index int, e impl.Entry) []byte {
	return append(numsBytes(2, index, e.Term, e.Kind), textBytes(e.Data)...)
}

func cutInner(index int) []byte {
	return numsBytes(3, index)
}

func snapInner(base int, baseTerm int, group []byte, snap []byte) []byte {
	return slices.Concat(numsBytes(4, base, baseTerm), textBytes(group), textBytes(snap))
}

func framesOf(inners ...[]byte) []byte {
	b := []byte{}
	for _, inner := range inners {
		b = append(b, frameOf(inner)...)
	}
	return b
}

// entryDone reads behind the mark of an entry's record.
func entryDone(k impl.Keep, e *imageEye) (impl.Keep, bool) {
	index := e.num()
	x := impl.Entry{Term: e.num()}
	x.Kind = e.num()
	x.Data = []byte(e.text())
	k.Log = append(entriesOf(k, func(at int) bool { return at < index }), x)
	return k, index > k.Base && index == lastOf(k)
}

func cutDone(k impl.Keep, e *imageEye) (impl.Keep, bool) {
	index := e.num()
	_, there := entryAt(k, index)
	k.Log = entriesOf(k, func(at int) bool { return at < index })
	return k, there
}

func snapDone(k impl.Keep, e *imageEye) (impl.Keep, bool) {
	base := e.num()
	baseTerm := e.num()
	group := e.text()
	snap := e.text()
	if len(group) != 2 || group[0] > 127 || group[1] > 127 {
		return k, false
	}
	newer := base > k.Base
	ahead, there := entryAt(k, base)
	stay := entriesOf(k, func(at int) bool { return there && ahead.Term == baseTerm && at > base })
	return impl.Keep{Term: k.Term, Vote: k.Vote, Base: base, BaseTerm: baseTerm, Group: groupOfBits(int(group[0]), int(group[1])), Snap: []byte(snap), Log: stay}, newer
}

// recordDone is false of bytes that are no record, or that are none of k's.
func recordDone(k impl.Keep, inner []byte) (impl.Keep, bool) {
	e, done := &imageEye{b: inner, whole: true}, false
	switch e.num() {
	case 1:
		k.Term = e.num()
		k.Vote = e.num()
		done = true
	case 2:
		k, done = entryDone(k, e)
	case 3:
		k, done = cutDone(k, e)
	case 4:
		k, done = snapDone(k, e)
	}
	return k, done && e.whole && e.at == len(inner) && keepRight(k)
}

func redoWanted(k impl.Keep, b []byte) (impl.Keep, int) {
	if !keepRight(k) {
		return k, 0
	}
	at := 0
	for {
		inner, next, code := frameAt(b, at)
		if code != impl.FrameGood {
			return k, at
		}
		changed, done := recordDone(k, inner)
		if !done {
			return k, at
		}
		k, at = changed, next
	}
}

func mayBecome(a impl.Keep, b impl.Keep) bool {
	if !keepRight(a) || !keepRight(b) || b.Term < a.Term || b.Base < a.Base {
		return false
	}
	return a.Base != b.Base || a.BaseTerm == b.BaseTerm && sameGroup(a.Group, b.Group) && bytes.Equal(a.Snap, b.Snap)
}

// innersWanted are the bytes of the records one by one; what is so far is what they do, one behind the other.
func innersWanted(a impl.Keep, b impl.Keep) [][]byte {
	list, far := [][]byte{}, a
	add := func(inner []byte) {
		list = append(list, inner)
		far, _ = recordDone(far, inner)
	}
	if a.Term != b.Term || a.Vote != b.Vote {
		add(voteInner(b.Term, b.Vote))
	}
	if a.Base != b.Base {
		add(snapInner(b.Base, b.BaseTerm, groupBytesWanted(b.Group), b.Snap))
	}
	first := 0
	for index := b.Base + 1; index <= lastOf(b) && first == 0; index++ {
		want, _ := entryAt(b, index)
		if has, there := entryAt(far, index); !there || !sameEntry(has, want) {
			first = index
		}
	}
	if first == 0 && lastOf(far) > lastOf(b) {
		add(cutInner(lastOf(b) + 1))
	}
	for index := first; index != 0 && index <= lastOf(b); index++ {
		e, _ := entryAt(b, index)
		add(entryInner(index, e))
	}
	return list
}

// recordsWanted is nothing, too, where a record is too long for a frame: without it the others would not make b.
func recordsWanted(a impl.Keep, b impl.Keep) []byte {
	if !mayBecome(a, b) {
		return nil
	}
	all := []byte{}
	for _, inner := range innersWanted(a, b) {
		if len(inner) > longestFrame {
			return nil
		}
		all = append(all, frameOf(inner)...)
	}
	return all
}

// roomyKeep has spare room behind each list; what stands there would make it another one, or go on with it.
func roomyKeep(k impl.Keep) impl.Keep {
	k.Group.Now = roomyRow(k.Group.Now)[:len(k.Group.Now)]
	k.Group.Next = roomyRow(k.Group.Next)[:len(k.Group.Next)]
	k.Snap = roomy(k.Snap, []byte("spare room"))
	count := len(k.Log)
	k.Log = slices.Concat(k.Log, []impl.Entry{noop(max(k.Term, 1)), regroup(max(k.Term, 1), 7, 0), noop(-1)})
	for i, e := range k.Log {
		k.Log[i].Data = roomy(e.Data, []byte{7, 7, 7})
	}
	k.Log = k.Log[:count]
	return k
}

// memoryOf tells all that stands in k's memory, its spare room too.
func memoryOf(k impl.Keep) string {
	now, next, snap, log := k.Group.Now, k.Group.Next, k.Snap, k.Log
	words := []string{fmt.Sprint(now[:cap(now)], next[:cap(next)], string(snap[:cap(snap)]))}
	for _, e := range log[:cap(log)] {
		words = append(words, fmt.Sprint(e.Term, e.Kind, len(e.Data), string(e.Data[:cap(e.Data)])))
	}
	return strings.Join(words, "|")
}

// scribbleKeep writes into all of k's memory, its spare room too, and tells whether two of its lists have some of it together.
func scribbleKeep(k impl.Keep) bool {
	rows := [][]int{k.Group.Now, k.Group.Next}
	lists := [][]byte{k.Snap}
	for _, e := range k.Log {
		lists = append(lists, e.Data)
	}
	for i, row := range rows {
		for j := range row[:cap(row)] {
			row[:cap(row)][j] = -1000 - i
		}
	}
	for i, list := range lists {
		for j := range list[:cap(list)] {
			list[:cap(list)][j] = byte(i + 1)
		}
	}
	shared := false
	for i, row := range rows {
		for _, n := range row[:cap(row)] {
			shared = shared || n != -1000-i
		}
	}
	for i, list := range lists {
		for _, c := range list[:cap(list)] {
			shared = shared || c != byte(i+1)
		}
	}
	for i := range k.Log[:cap(k.Log)] {
		k.Log[:cap(k.Log)][i] = impl.Entry{Term: -7, Kind: -8, Data: []byte("over")}
	}
	return shared
}

// askedKeep hands k in with spare room behind its lists, and fails if the call changes them or the room, answers any of their memory or one memory twice, or answers otherwise when it is called again behind an answer that was written over.
func askedKeep(t *testing.T, k impl.Keep, call func(impl.Keep) impl.Keep) impl.Keep {
	t.Helper()
	given := roomyKeep(k)
	ahead := memoryOf(given)
	first := call(given)
	if memoryOf(given) != ahead {
		t.Fatalf("%s was changed, or the room behind", keepText(k))
	}
	answer := cloneKeep(first)
	if scribbleKeep(first) {
		t.Fatalf("two lists of what was answered for %s have one memory", keepText(k))
	}
	if memoryOf(given) != ahead {
		t.Fatalf("what was answered has the memory of %s", keepText(k))
	}
	second := call(given)
	scribbleKeep(given)
	if !sameKeep(second, answer) {
		t.Fatalf("of %s first %s, then %s", keepText(k), keepText(answer), keepText(second))
	}
	return answer
}

func checkEntry(t *testing.T, e impl.Entry) bool {
	t.Helper()
	given := e
	given.Data = roomy(e.Data, []byte{7, 7})
	ahead := string(given.Data[:cap(given.Data)])
	ok := impl.EntryOk(given)
	if ok != entryRight(e) {
		t.Fatalf("EntryOk(%s) = %v", entryText(e), ok)
	}
	if string(given.Data[:cap(given.Data)]) != ahead {
		t.Fatalf("EntryOk(%s) changed its data, or the room behind", entryText(e))
	}
	return ok
}

func checkKeep(t *testing.T, k impl.Keep) bool {
	t.Helper()
	ok := false
	askedKeep(t, k, func(x impl.Keep) impl.Keep {
		ok = impl.KeepOk(x)
		return impl.Keep{}
	})
	if ok != keepRight(k) {
		t.Fatalf("KeepOk(%s) = %v", keepText(k), ok)
	}
	return ok
}

func checkLast(t *testing.T, k impl.Keep) (int, int) {
	t.Helper()
	index, term := 0, 0
	askedKeep(t, k, func(x impl.Keep) impl.Keep {
		index, term = impl.LastEntry(x)
		return impl.Keep{}
	})
	wantIndex, wantTerm := 0, 0
	if keepRight(k) {
		wantIndex, wantTerm = k.Base, k.BaseTerm
		for _, e := range k.Log {
			wantIndex, wantTerm = wantIndex+1, e.Term
		}
	}
	if index != wantIndex || term != wantTerm {
		t.Fatalf("LastEntry(%s) = %d, %d, not %d, %d", keepText(k), index, term, wantIndex, wantTerm)
	}
	return index, term
}

func termWanted(k impl.Keep, index int) (int, bool) {
	if !keepRight(k) {
		return 0, false
	}
	if index == k.Base {
		return k.BaseTerm, true
	}
	e, there := entryAt(k, index)
	return e.Term, there
}

func checkTerm(t *testing.T, k impl.Keep, index int) (int, bool) {
	t.Helper()
	term, ok := 0, false
	askedKeep(t, k, func(x impl.Keep) impl.Keep {
		term, ok = impl.TermAt(x, index)
		return impl.Keep{}
	})
	if want, there := termWanted(k, index); term != want || ok != there {
		t.Fatalf("TermAt(%s, %d) = %d, %v, not %d, %v", keepText(k), index, term, ok, want, there)
	}
	return term, ok
}

func groupWanted(k impl.Keep) impl.Group {
	if !keepRight(k) {
		return impl.Group{}
	}
	g := k.Group
	for _, e := range k.Log {
		if e.Kind == 3 {
			g = groupOfBits(int(e.Data[0]), int(e.Data[1]))
		}
	}
	return g
}

func checkGroupOf(t *testing.T, k impl.Keep) impl.Group {
	t.Helper()
	got := askedKeep(t, k, func(x impl.Keep) impl.Keep { return impl.Keep{Group: impl.GroupOf(x)} }).Group
	if want := groupWanted(k); !sameGroup(got, want) {
		t.Fatalf("GroupOf(%s) = %v, not %v", keepText(k), got, want)
	}
	return got
}

func checkKeepNew(t *testing.T, g impl.Group) impl.Keep {
	t.Helper()
	got := askedKeep(t, impl.Keep{Group: g}, func(x impl.Keep) impl.Keep { return impl.KeepNew(x.Group) })
	want := impl.Keep{}
	if groupRight(g) {
		want.Group = g
	}
	if !sameKeep(got, want) {
		t.Fatalf("KeepNew(%v) = %s", g, keepText(got))
	}
	return got
}

// checkRedoWith hands b in with the bytes of spare in the room behind it.
func checkRedoWith(t *testing.T, k impl.Keep, b []byte, spare []byte) (impl.Keep, int) {
	t.Helper()
	at := 0
	whole := slices.Concat(b, spare)
	got := askedKeep(t, k, func(x impl.Keep) (answer impl.Keep) {
		room := slices.Clone(whole)
		answer, at = impl.Redo(x, room[:len(b)])
		if !bytes.Equal(room, whole) {
			t.Fatalf("Redo(%s, %x) changed these bytes, or what stands behind", keepText(k), b)
		}
		was := cloneKeep(answer)
		scribbleBytes(room)
		if !sameKeep(answer, was) {
			t.Fatalf("Redo(%s, %x) answers these bytes' memory", keepText(k), b)
		}
		return answer
	})
	if want, place := redoWanted(k, b); at != place || !sameKeep(got, want) {
		t.Fatalf("Redo(%s, %d bytes %.40x) = %s, %d, not %s, %d", keepText(k), len(b), b, keepText(got), at, keepText(want), place)
	}
	return got, at
}

// checkRedo has a record behind the bytes that would be done, too.
func checkRedo(t *testing.T, k impl.Keep, b []byte) (impl.Keep, int) {
	t.Helper()
	return checkRedoWith(t, k, b, frameOf(voteInner(lastTerm, 7)))
}

func checkRecords(t *testing.T, a impl.Keep, b impl.Keep) []byte {
	t.Helper()
	want := recordsWanted(a, b)
	askedKeep(t, a, func(x impl.Keep) impl.Keep {
		askedKeep(t, b, func(y impl.Keep) impl.Keep {
			ahead := memoryOf(x)
			got := impl.Records(x, y)
			if !bytes.Equal(got, want) {
				t.Fatalf("Records(%s, %s) = %.60x, not %.60x", keepText(a), keepText(b), got, want)
			}
			scribbleBytes(got)
			if memoryOf(x) != ahead {
				t.Fatalf("Records(%s, %s) changed the first, or answers its memory", keepText(a), keepText(b))
			}
			return impl.Keep{}
		})
		return impl.Keep{}
	})
	return want
}

// frameEnds are the places behind each frame of b, and 0.
func frameEnds(b []byte) []int {
	list, at := []int{0}, 0
	for {
		_, next, code := frameAt(b, at)
		if code != impl.FrameGood {
			return list
		}
		list, at = append(list, next), next
	}
}

// checkBeginning redoes the first cut bytes of r, which are the records of a and b: what comes of them is right, and goes on to b, by the rest of r, and by records of its own, which are that rest.
func checkBeginning(t *testing.T, a impl.Keep, b impl.Keep, r []byte, ends []int, cut int) {
	t.Helper()
	x, at := checkRedoWith(t, a, r[:cut], r[cut:])
	whole := 0
	for _, end := range ends {
		if end <= cut {
			whole = end
		}
	}
	if at != whole || !impl.KeepOk(x) {
		t.Fatalf("from %s to %s, %d of %d bytes: place %d, not %d, of %s", keepText(a), keepText(b), cut, len(r), at, whole, keepText(x))
	}
	if y, end := impl.Redo(x, r[at:]); end != len(r)-at || !sameKeep(y, b) {
		t.Fatalf("from %s to %s, %d of %d bytes: goes on to %s, %d", keepText(a), keepText(b), cut, len(r), keepText(y), end)
	}
	if rest := impl.Records(x, b); !bytes.Equal(rest, r[at:]) {
		t.Fatalf("from %s to %s, %d of %d bytes: then %x, not %x", keepText(a), keepText(b), cut, len(r), rest, r[at:])
	}
}

// checkGoesOn is promise 13 of two Keeps of which one may become the other: of few bytes each beginning is taken, of many those around the ends of frames.
func checkGoesOn(t *testing.T, a impl.Keep, b impl.Keep) []byte {
	t.Helper()
	r := checkRecords(t, a, b)
	if x, at := checkRedo(t, a, r); at != len(r) || !sameKeep(x, b) {
		t.Fatalf("from %s to %s: %s, %d of %d", keepText(a), keepText(b), keepText(x), at, len(r))
	}
	if again := checkRecords(t, b, b); len(again) != 0 {
		t.Fatalf("Records of %s and itself: %x", keepText(b), again)
	}
	ends, cuts := frameEnds(r), []int{}
	for cut := range len(r) + 1 {
		near := slices.ContainsFunc(ends, func(end int) bool { return isWithin(cut-end, -1, 1) })
		if len(r) <= 200 || near && len(ends) < 20 || slices.Contains(ends[max(0, len(ends)-3):], cut) {
			cuts = append(cuts, cut)
		}
	}
	for _, cut := range cuts {
		checkBeginning(t, a, b, r, ends, cut)
	}
	return r
}

// longText has so many bytes, no two neighbours of which are alike.
func longText(length int) string {
	return string(longFile(length, 0).Bytes)
}

// risingLog has entries of each kind, of the terms from first to last, count in all.
func risingLog(first int, last int, count int) []impl.Entry {
	list := []impl.Entry{}
	for i := range count {
		term := first + (last-first)*i/max(1, count-1)
		switch i % 4 {
		case 0:
			list = append(list, noop(term))
		case 3:
			list = append(list, regroup(term, byte(1+i%127), byte(i*5%128)))
		default:
			list = append(list, asked(term, fmt.Sprint("data ", i)))
		}
	}
	return list
}

func withGroup(k impl.Keep, g impl.Group) impl.Keep {
	k.Group = g
	return k
}

func rightKeeps() map[string]impl.Keep {
	return map[string]impl.Keep{
		"new":                   kept(0, 0, 0, 0, ""),
		"new, one alone":        withGroup(kept(0, 0, 0, 0, ""), groupOf([]int{7})),
		"new, all":              withGroup(kept(0, 0, 0, 0, ""), groupOf(upTo(7))),
		"new, joint":            withGroup(kept(0, 0, 0, 0, ""), groupOf([]int{1, 2}, 3, 4)),
		"a vote ahead of terms": kept(0, 7, 0, 0, ""),
		"a term":                kept(1, 0, 0, 0, ""),
		"a term and a vote":     kept(5, 3, 0, 0, ""),
		"last term and vote":    kept(lastTerm, 7, 0, 0, ""),
		"one entry":             kept(1, 1, 0, 0, "", noop(1)),
		"one below the term":    kept(9, 0, 0, 0, "", noop(1)),
		"each kind":             kept(3, 0, 0, 0, "", noop(1), asked(1, "x"), regroup(2, 7, 12), asked(3, "")),
		"terms that stay":       kept(4, 2, 0, 0, "", noop(4), asked(4, "a"), asked(4, "b")),
		"terms with gaps":       kept(900, 2, 0, 0, "", noop(4), noop(70), noop(900)),
		"last term's entries":   kept(lastTerm, 1, 0, 0, "", noop(1), noop(lastTerm)),
		"two groups":            kept(3, 0, 0, 0, "", regroup(1, 7, 12), noop(1), regroup(2, 12, 0), asked(3, "behind")),
		"a long command":        kept(2, 0, 0, 0, "", asked(2, longText(mostCommand))),
		"all entries":           kept(50, 1, 0, 0, "", risingLog(1, 50, mostLog)...),
		"all entries alike":     kept(2, 1, 0, 0, "", noops(2, mostLog)...),
		"snapshot alone":        kept(2, 0, 3, 2, "snap"),
		"snapshot of 1":         kept(1, 0, 1, 1, "s"),
		"an empty snapshot":     kept(8, 0, 12, 5, ""),
		"an old snapshot":       kept(8, 4, 12, 1, "snap"),
		"a joint snapshot":      withGroup(kept(8, 4, 12, 5, "snap"), groupOf([]int{1, 2, 3}, 3, 4)),
		"last snapshot":         kept(lastTerm, 7, lastBase, lastTerm, "snap"),
		"one, the last index":   kept(4, 1, lastBase-1, 2, "snap", noop(3)),
		"up to the last index":  kept(lastTerm, 7, lastBase-mostLog, 5, "snap", risingLog(5, lastTerm, mostLog)...),
		"a long snapshot":       kept(2, 0, 3, 2, longText(mostData)),
		"a snapshot and one":    kept(4, 1, 3, 2, "snap", noop(2)),
		"a snapshot and more":   kept(4, 1, 3, 2, "snap", noop(2), asked(3, "five"), asked(3, "six")),
		"all there is":          kept(60, 1, 300, 7, longText(5000), risingLog(7, 60, mostLog)...),
	}
}

// wrongKeeps are each wrong by one thing, but for the last ones.
func wrongKeeps() map[string]impl.Keep {
	list := map[string]impl.Keep{
		"Term -1":               kept(-1, 0, 0, 0, ""),
		"Term least":            kept(math.MinInt, 0, 0, 0, ""),
		"Term one more":         kept(lastTerm+1, 0, 0, 0, ""),
		"Term greatest":         kept(math.MaxInt, 0, 0, 0, ""),
		"Vote -1":               kept(1, -1, 0, 0, ""),
		"Vote least":            kept(1, math.MinInt, 0, 0, ""),
		"Vote 8":                kept(1, 8, 0, 0, ""),
		"Vote greatest":         kept(1, math.MaxInt, 0, 0, ""),
		"Base -1":               kept(1, 0, -1, 1, ""),
		"Base -1, no term":      kept(1, 0, -1, 0, ""),
		"Base least":            kept(1, 0, math.MinInt, 1, ""),
		"Base one more":         kept(1, 0, lastBase+1, 1, ""),
		"Base greatest":         kept(1, 0, math.MaxInt, 1, ""),
		"BaseTerm at 0":         kept(1, 0, 0, 1, ""),
		"BaseTerm -1 at 0":      kept(1, 0, 0, -1, ""),
		"BaseTerm 0":            kept(1, 0, 1, 0, ""),
		"BaseTerm 0, a snap":    kept(4, 0, 9, 0, "snap"),
		"BaseTerm 0, Term 0":    kept(0, 0, 9, 0, ""),
		"BaseTerm -1":           kept(1, 0, 1, -1, ""),
		"BaseTerm least":        kept(1, 0, 1, math.MinInt, ""),
		"BaseTerm above Term":   kept(4, 0, 1, 5, ""),
		"BaseTerm above Term 0": kept(0, 0, 1, 1, ""),
		"BaseTerm one more":     kept(lastTerm, 0, 1, lastTerm+1, ""),
		"BaseTerm greatest":     kept(1, 0, 1, math.MaxInt, ""),
		"Snap at 0":             kept(1, 0, 0, 0, "s"),
		"long Snap at 0":        kept(1, 0, 0, 0, longText(mostData)),
		"Snap one longer":       kept(1, 0, 1, 1, longText(mostData+1)),
		"Snap far longer":       kept(1, 0, 1, 1, longText(100000)),
		"Log one longer":        kept(1, 0, 0, 0, "", noops(1, mostLog+1)...),
		"Log far longer":        kept(1, 0, 0, 0, "", noops(1, 1000)...),
		"one behind the last":   kept(1, 0, lastBase, 1, "s", noop(1)),
		"two behind the last":   kept(9, 0, lastBase, 1, "s", asked(2, "x"), noop(9)),
		"second behind it":      kept(9, 0, lastBase-1, 1, "s", noop(2), noop(2)),
		"last of many behind":   kept(9, 0, lastBase-mostLog+1, 1, "s", risingLog(2, 9, mostLog)...),
		"many behind the last":  kept(lastTerm, 7, lastBase, 5, "snap", risingLog(5, lastTerm, mostLog)...),
		"Log one longer, based": kept(9, 0, 5, 2, "s", risingLog(2, 9, mostLog+1)...),
		"entry of term 0":       kept(1, 0, 0, 0, "", noop(0)),
		"entry of term -1":      kept(1, 0, 0, 0, "", noop(-1)),
		"entry above Term":      kept(1, 0, 0, 0, "", noop(2)),
		"entry above Term 0":    kept(0, 0, 0, 0, "", noop(1)),
		"last above Term":       kept(3, 0, 0, 0, "", noop(1), noop(3), noop(4)),
		"middle above Term":     kept(3, 0, 0, 0, "", noop(1), noop(4), noop(4)),
		"entry below BaseTerm":  kept(5, 0, 1, 3, "", noop(2)),
		"first below BaseTerm":  kept(5, 0, 1, 3, "", noop(2), noop(3), noop(4)),
		"terms fall":            kept(5, 0, 0, 0, "", noop(3), noop(2)),
		"terms fall at last":    kept(5, 0, 0, 0, "", noop(1), noop(3), noop(3), noop(2)),
		"terms fall within":     kept(5, 0, 0, 0, "", noop(1), noop(4), noop(3), noop(5)),
		"terms fall, based":     kept(5, 0, 6, 2, "s", noop(3), noop(2)),
		"term falls from above": kept(3, 0, 0, 0, "", noop(4), noop(3)),
		"entry of no kind":      kept(1, 0, 0, 0, "", impl.Entry{Term: 1}),
		"entry of kind 4":       kept(1, 0, 0, 0, "", noop(1), impl.Entry{Term: 1, Kind: 4}, noop(1)),
		"noop with data":        kept(1, 0, 0, 0, "", impl.Entry{Term: 1, Kind: 1, Data: []byte{0}}),
		"command too long":      kept(1, 0, 0, 0, "", noop(1), asked(1, longText(mostCommand+1))),
		"group of nobody":       kept(1, 0, 0, 0, "", regroup(1, 0, 7)),
		"group of 8":            kept(1, 0, 0, 0, "", regroup(1, 128, 0)),
		"group of no bytes":     kept(1, 0, 0, 0, "", impl.Entry{Term: 1, Kind: 3}),
		"last of many":          kept(9, 0, 0, 0, "", append(risingLog(1, 9, mostLog-1), impl.Entry{Term: 9, Kind: 0})...),
		"zero":                  {},
		"much":                  kept(-1, 9, -1, 7, "s", noop(9), noop(1)),
	}
	for name, g := range wrongGroups() {
		list["Group "+name] = withGroup(kept(1, 0, 0, 0, ""), g)
		list["Group behind a snapshot "+name] = withGroup(kept(4, 1, 3, 2, "snap", noop(2), regroup(3, 7, 0)), g)
	}
	return list
}

func TestKeepConstants(t *testing.T) {
	got := []int{impl.MaxLog, impl.MaxData, impl.MaxTerm, impl.MaxIndex, impl.EntryNoop, impl.EntryCommand, impl.EntryGroup}
	if !slices.Equal(got, []int{120, 20000, 1000000, 1000000, 1, 2, 3}) {
		t.Error(got)
	}
}

func TestEntryOkTable(t *testing.T) {
	for _, c := range []struct {
		term, kind int
		data       string
		want       bool
	}{
		{1, 1, "", true},
		{2, 1, "", true},
		{lastTerm, 1, "", true},
		{1, 1, "x", false},
		{1, 1, "\x00", false},
		{1, 1, "\x07\x00", false},
		{1, 1, longText(400), false},
		{1, 2, "", true},
		{1, 2, "x", true},
		{1, 2, "\x07\x00", true},
		{1, 2, longText(399), true},
		{1, 2, longText(400), true},
		{lastTerm, 2, longText(400), true},
		{1, 2, longText(401), false},
		{1, 2, longText(20000), false},
		{1, 3, "\x01\x00", true},
		{1, 3, "\x07\x0c", true},
		{1, 3, "\x7f\x7f", true},
		{lastTerm, 3, "\x07\x07", true},
		{1, 3, "", false},
		{1, 3, "\x07", false},
		{1, 3, "\x00\x00", false},
		{1, 3, "\x00\x07", false},
		{1, 3, "\x80\x00", false},
		{1, 3, "\x07\x80", false},
		{1, 3, "\x07\x00\x00", false},
		{1, 3, "\x07\x0c\x07\x0c", false},
		// Terms that are none.
		{0, 1, "", false},
		{-1, 1, "", false},
		{lastTerm + 1, 1, "", false},
		{0, 2, "x", false},
		{lastTerm + 1, 2, "x", false},
		{0, 3, "\x07\x00", false},
		{lastTerm + 1, 3, "\x07\x00", false},
		// Kinds that are none.
		{1, 0, "", false},
		{1, -1, "", false},
		{1, 4, "", false},
		{1, 0, "x", false},
		{1, 4, "\x07\x00", false},
		{1, 256 + 1, "", false},
		{1, 1<<32 + 1, "", false},
		{1, math.MaxInt, "", false},
		{1, math.MinInt, "", false},
	} {
		if got := checkEntry(t, impl.Entry{Term: c.term, Kind: c.kind, Data: []byte(c.data)}); got != c.want {
			t.Errorf("EntryOk of %d, %d, %.20q: %v", c.term, c.kind, c.data, got)
		}
	}
	if impl.EntryOk(impl.Entry{}) || !impl.EntryOk(impl.Entry{Term: 1, Kind: 1, Data: nil}) || !impl.EntryOk(impl.Entry{Term: 1, Kind: 2, Data: nil}) {
		t.Error("without data")
	}
}

func TestEntryOkOfEveryKindTermAndData(t *testing.T) {
	counts := map[bool]int{}
	lists := [][]byte{nil, {}, {0}, {1}, {1, 0}, {127, 127}, {0, 1}, {128, 1}, {1, 128}, {1, 2, 3}}
	lists = append(lists, someBytes(2, 3, 100, 399, 400, 401, 402, 1000, 20000, 20001)...)
	for _, term := range []int{math.MinInt, -1, 0, 1, 2, 500, lastTerm - 1, lastTerm, lastTerm + 1, 1<<32 + 1, math.MaxInt} {
		for _, kind := range []int{math.MinInt, -1, 0, 1, 2, 3, 4, 5, 257, 258, 259, 1<<32 + 2, math.MaxInt} {
			for _, data := range lists {
				counts[checkEntry(t, impl.Entry{Term: term, Kind: kind, Data: data})]++
			}
		}
	}
	if counts[true] < 50 || counts[false] < 1000 {
		t.Error(counts)
	}
}

// All pairs of bytes: just those of a right group are its entry's.
func TestEntryOkOfEveryGroup(t *testing.T) {
	for now := range 256 {
		for next := range 256 {
			e := regroup(5, byte(now), byte(next))
			want := now > 0 && now < allRows && next < allRows
			if impl.EntryOk(e) != want {
				t.Fatalf("EntryOk of the group %d %d: %v", now, next, !want)
			}
		}
	}
	eachGroup(func(now int, next int, g impl.Group) {
		if !impl.EntryOk(impl.Entry{Term: 1, Kind: impl.EntryGroup, Data: impl.PutGroup(g)}) {
			t.Fatal("not right:", g)
		}
	})
	for name, g := range wrongGroups() {
		if impl.EntryOk(impl.Entry{Term: 1, Kind: impl.EntryGroup, Data: impl.PutGroup(g)}) {
			t.Error("right:", name)
		}
	}
}

func TestEntryOkOfEveryLength(t *testing.T) {
	for length := range 500 {
		data := []byte(longText(length))
		for kind, want := range map[int]bool{1: length == 0, 2: length <= 400, 3: false, 0: false, 4: false} {
			if length == 2 && kind == 3 {
				continue
			}
			if got := checkEntry(t, impl.Entry{Term: 1, Kind: kind, Data: data}); got != want {
				t.Errorf("kind %d of %d bytes: %v", kind, length, got)
			}
		}
	}
}

func TestKeepOkOfRightAndWrong(t *testing.T) {
	for name, k := range rightKeeps() {
		if !checkKeep(t, k) {
			t.Error("not right:", name, keepText(k))
		}
	}
	for name, k := range wrongKeeps() {
		if checkKeep(t, k) {
			t.Error("right:", name, keepText(k))
		}
	}
}

func TestKeepOkTable(t *testing.T) {
	for _, c := range []struct {
		term, vote, base, baseTerm, snap, log int
		want                                  bool
	}{
		{0, 0, 0, 0, 0, 0, true},
		{-1, 0, 0, 0, 0, 0, false},
		{1000000, 0, 0, 0, 0, 0, true},
		{1000001, 0, 0, 0, 0, 0, false},
		{1, -1, 0, 0, 0, 0, false},
		{1, 7, 0, 0, 0, 0, true},
		{1, 8, 0, 0, 0, 0, false},
		{0, 7, 0, 0, 0, 0, true},
		{1, 0, -1, 0, 0, 0, false},
		{1, 0, -1, 1, 0, 0, false},
		{1, 0, 1, 1, 0, 0, true},
		{1, 0, 1000000, 1, 0, 0, true},
		{1, 0, 1000001, 1, 0, 0, false},
		{1, 0, 0, 1, 0, 0, false},
		{1, 0, 0, -1, 0, 0, false},
		{1, 0, 1, 0, 0, 0, false},
		{1, 0, 1, -1, 0, 0, false},
		{1, 0, 1, 2, 0, 0, false},
		{2, 0, 1, 2, 0, 0, true},
		{3, 0, 1, 2, 0, 0, true},
		{1000000, 0, 1, 1000000, 0, 0, true},
		{1000000, 0, 1, 1000001, 0, 0, false},
		{1, 0, 0, 0, 1, 0, false},
		{1, 0, 1, 1, 1, 0, true},
		{1, 0, 1, 1, 20000, 0, true},
		{1, 0, 1, 1, 20001, 0, false},
		{1, 0, 0, 0, 0, 1, true},
		{1, 0, 0, 0, 0, 120, true},
		{1, 0, 0, 0, 0, 121, false},
		{0, 0, 0, 0, 0, 1, false},
		{1, 0, 1, 1, 20000, 120, true},
		{1, 0, 999880, 1, 0, 120, true},
		{1, 0, 999881, 1, 0, 120, false},
		{1, 0, 999879, 1, 0, 121, false},
		{1, 0, 999999, 1, 0, 1, true},
		{1, 0, 999999, 1, 0, 2, false},
		{1, 0, 1000000, 1, 0, 1, false},
		{1, 0, 1000000, 1, 0, 120, false},
		{2, 0, 1, 2, 0, 1, false},
	} {
		k := kept(c.term, c.vote, c.base, c.baseTerm, longText(c.snap), noops(1, c.log)...)
		if got := checkKeep(t, k); got != c.want {
			t.Errorf("KeepOk(%s) = %v", keepText(k), got)
		}
	}
}

// Each field of each right Keep has other values, at its bounds and past them.
func TestKeepOkOfOneOtherField(t *testing.T) {
	numbers := []int{math.MinInt, -1, 0, 1, 2, 3, 5, 6, 7, 8, 9, 50, 256, 999999, 1000000, 1000001, 1<<32 + 1, math.MaxInt}
	fields := map[string]func(*impl.Keep) *int{
		"Term":     func(k *impl.Keep) *int { return &k.Term },
		"Vote":     func(k *impl.Keep) *int { return &k.Vote },
		"Base":     func(k *impl.Keep) *int { return &k.Base },
		"BaseTerm": func(k *impl.Keep) *int { return &k.BaseTerm },
	}
	counts := map[string]int{}
	for _, right := range rightKeeps() {
		for name, field := range fields {
			for _, n := range numbers {
				k := cloneKeep(right)
				*field(&k) = n
				counts[fmt.Sprint(name, " ", checkKeep(t, k))]++
			}
		}
		for _, length := range []int{0, 1, 20, mostData - 1, mostData, mostData + 1} {
			k := cloneKeep(right)
			k.Snap = []byte(longText(length))
			counts[fmt.Sprint("Snap ", checkKeep(t, k))]++
		}
		for _, length := range []int{0, 1, mostLog - 1, mostLog, mostLog + 1} {
			k := cloneKeep(right)
			k.Log = noops(max(1, k.Term), length)
			counts[fmt.Sprint("Log ", checkKeep(t, k))]++
		}
	}
	for _, name := range []string{"Term", "Vote", "Base", "BaseTerm", "Snap", "Log"} {
		if counts[name+" true"] < 20 || counts[name+" false"] < 20 {
			t.Error("hardly ever seen:", name, counts)
		}
	}
}

// In logs of each length each entry in turn is another one.
func TestKeepOkOfOneOtherEntry(t *testing.T) {
	counts := map[bool]int{}
	others := []impl.Entry{{}, noop(-1), noop(0), noop(1), noop(2), noop(4), noop(5), noop(9), noop(10), noop(lastTerm), noop(lastTerm + 1), noop(math.MaxInt), asked(5, longText(400)), asked(5, longText(401)), regroup(5, 1, 0), regroup(5, 0, 1), {Term: 5}, {Term: 5, Kind: 4}, {Term: 5, Kind: 1, Data: []byte("x")}}
	for _, count := range []int{1, 2, 3, 7, mostLog} {
		for at := range count {
			for _, e := range others {
				k := kept(9, 2, 40, 2, "snap", risingLog(2, 9, count)...)
				k.Log[at] = e
				counts[checkKeep(t, k)]++
			}
		}
	}
	if counts[true] < 100 || counts[false] < 1000 {
		t.Error(counts)
	}
}

// eachTerms goes through all rows of so many terms, of 0 to 4.
func eachTerms(count int, look func(terms []int)) {
	eachShortRow([]int{0, 1, 2, 3, 4}, count, func(row []int) {
		if len(row) == count {
			look(row)
		}
	})
}

func TestKeepOkOfEveryRowOfTerms(t *testing.T) {
	counts := map[bool]int{}
	eachTerms(5, func(terms []int) {
		log := []impl.Entry{}
		for _, term := range terms[2:] {
			log = append(log, noop(term))
		}
		for _, base := range []int{0, 1, 7} {
			k := kept(terms[0], 1, base, terms[1], "", log...)
			ok := checkKeep(t, k)
			rising := slices.IsSorted(terms[1:]) && terms[2] >= 1 && terms[4] <= terms[0]
			if ok != (rising && (terms[1] == 0) == (base == 0)) {
				t.Fatalf("KeepOk(%s) = %v", keepText(k), ok)
			}
			counts[ok]++
		}
	})
	if counts[true] < 50 || counts[false] < 1000 {
		t.Error(counts)
	}
}

func TestKeepNewOfRightAndWrongGroups(t *testing.T) {
	eachGroup(func(now int, next int, g impl.Group) {
		k := impl.KeepNew(g)
		if !sameKeep(k, impl.Keep{Group: g}) || !impl.KeepOk(k) {
			t.Fatalf("KeepNew(%v) = %s", g, keepText(k))
		}
		if now%11 == 0 || next%13 == 0 {
			checkKeepNew(t, g)
		}
	})
	for name, g := range wrongGroups() {
		if k := checkKeepNew(t, g); !sameKeep(k, impl.Keep{}) || impl.KeepOk(k) {
			t.Error(name, keepText(k))
		}
	}
}

func TestLastEntryTable(t *testing.T) {
	for _, c := range []struct {
		k           impl.Keep
		index, term int
	}{
		{kept(0, 0, 0, 0, ""), 0, 0},
		{kept(9, 3, 0, 0, ""), 0, 0},
		{kept(9, 3, 0, 0, "", noop(1)), 1, 1},
		{kept(9, 3, 0, 0, "", noop(1), noop(4)), 2, 4},
		{kept(9, 3, 0, 0, "", noop(1), noop(4), asked(9, "x")), 3, 9},
		{kept(9, 3, 5, 2, "s"), 5, 2},
		{kept(9, 3, 5, 2, ""), 5, 2},
		{kept(9, 3, 5, 2, "s", noop(3)), 6, 3},
		{kept(9, 3, 5, 2, "s", noop(3), noop(3), noop(7)), 8, 7},
		{kept(9, 3, 1000000, 9, "s"), 1000000, 9},
		{kept(9, 3, 999880, 2, "s", noops(8, 120)...), 1000000, 8},
		{kept(9, 3, 999999, 2, "s", noop(8)), 1000000, 8},
		{kept(9, 3, 999881, 2, "s", noops(8, 120)...), 0, 0},
		{kept(9, 3, 1000000, 2, "s", noop(8)), 0, 0},
		{kept(9, 8, 5, 2, "s", noop(3)), 0, 0},
		{kept(2, 3, 5, 2, "s", noop(3)), 0, 0},
		{kept(9, 3, 5, 0, "s"), 0, 0},
		{impl.Keep{}, 0, 0},
	} {
		if index, term := checkLast(t, c.k); index != c.index || term != c.term {
			t.Errorf("LastEntry(%s) = %d, %d", keepText(c.k), index, term)
		}
	}
}

func TestTermAtTable(t *testing.T) {
	plain := kept(9, 3, 0, 0, "", noop(1), asked(4, "x"), regroup(9, 7, 0))
	based := kept(9, 3, 5, 2, "s", noop(3), noop(3), noop(7))
	for _, c := range []struct {
		k           impl.Keep
		index, term int
		ok          bool
	}{
		{plain, -1, 0, false},
		{plain, 0, 0, true},
		{plain, 1, 1, true},
		{plain, 2, 4, true},
		{plain, 3, 9, true},
		{plain, 4, 0, false},
		{based, -1, 0, false},
		{based, 0, 0, false},
		{based, 1, 0, false},
		{based, 3, 0, false},
		{based, 4, 0, false},
		{based, 5, 2, true},
		{based, 6, 3, true},
		{based, 7, 3, true},
		{based, 8, 7, true},
		{based, 9, 0, false},
		{kept(0, 0, 0, 0, ""), 0, 0, true},
		{kept(0, 0, 0, 0, ""), 1, 0, false},
		{kept(9, 3, 5, 2, "s"), 4, 0, false},
		{kept(9, 3, 5, 2, "s"), 5, 2, true},
		{kept(9, 3, 5, 2, "s"), 6, 0, false},
		{kept(9, 3, 1000000, 2, "s"), 1000000, 2, true},
		{kept(9, 3, 1000000, 2, "s"), 1000001, 0, false},
		{kept(9, 3, 999880, 2, "s", noops(8, 120)...), 999880, 2, true},
		{kept(9, 3, 999880, 2, "s", noops(8, 120)...), 999881, 8, true},
		{kept(9, 3, 999880, 2, "s", noops(8, 120)...), 1000000, 8, true},
		{kept(9, 3, 999880, 2, "s", noops(8, 120)...), 1000001, 0, false},
		{kept(9, 3, 1000000, 2, "s", noop(8)), 1000000, 0, false},
		{kept(9, 3, 1000000, 2, "s", noop(8)), 1000001, 0, false},
		{plain, math.MinInt, 0, false},
		{plain, math.MaxInt, 0, false},
		{based, math.MinInt, 0, false},
		{based, math.MinInt + 5, 0, false},
		{based, math.MaxInt, 0, false},
		{based, 1<<32 + 6, 0, false},
		{kept(9, 8, 5, 2, "s", noop(3)), 5, 0, false},
		{kept(9, 8, 5, 2, "s", noop(3)), 6, 0, false},
		{kept(9, 3, 0, 0, "s", noop(3)), 0, 0, false},
		{impl.Keep{}, 0, 0, false},
	} {
		if term, ok := checkTerm(t, c.k, c.index); term != c.term || ok != c.ok {
			t.Errorf("TermAt(%s, %d) = %d, %v", keepText(c.k), c.index, term, ok)
		}
	}
}

func TestGroupOfTable(t *testing.T) {
	zero, own, joint := impl.Group{}, groupOf([]int{1, 2, 3}), groupOf([]int{1, 2, 3}, 3, 4)
	for _, c := range []struct {
		k    impl.Keep
		want impl.Group
	}{
		{kept(0, 0, 0, 0, ""), own},
		{withGroup(kept(0, 0, 0, 0, ""), joint), joint},
		{kept(3, 0, 0, 0, "", noop(1), asked(1, "\x07\x00")), own},
		{kept(3, 0, 0, 0, "", regroup(1, 7, 12)), joint},
		{kept(3, 0, 0, 0, "", noop(1), regroup(1, 7, 12), asked(2, "\x01\x00"), noop(3)), joint},
		{kept(3, 0, 0, 0, "", regroup(1, 7, 12), regroup(2, 12, 0)), groupOf([]int{3, 4})},
		{kept(3, 0, 0, 0, "", regroup(1, 127, 0), noop(1), regroup(2, 7, 12), noop(3)), joint},
		{kept(3, 0, 5, 2, "s"), own},
		{withGroup(kept(3, 0, 5, 2, "s", noop(2), asked(3, "x")), joint), joint},
		{withGroup(kept(3, 0, 5, 2, "s", noop(2), regroup(3, 12, 0)), joint), groupOf([]int{3, 4})},
		{withGroup(kept(3, 0, 5, 2, "s", regroup(2, 127, 127)), joint), groupOf(upTo(7), upTo(7)...)},
		// It is not KeepOk.
		{kept(3, 8, 0, 0, ""), zero},
		{kept(3, 8, 0, 0, "", regroup(1, 7, 12)), zero},
		{kept(1, 0, 0, 0, "", regroup(1, 7, 12), noop(2)), zero},
		{kept(3, 0, 0, 0, "", regroup(1, 7, 12), regroup(1, 0, 7)), zero},
		{withGroup(kept(3, 0, 0, 0, "", regroup(1, 7, 12)), zero), zero},
		{withGroup(kept(3, 0, 0, 0, ""), groupOf([]int{2, 1})), zero},
		{kept(3, 0, lastBase-1, 1, "s", regroup(1, 7, 12)), joint},
		{kept(3, 0, lastBase, 1, "s", regroup(1, 7, 12)), zero},
		{impl.Keep{}, zero},
	} {
		if got := checkGroupOf(t, c.k); !sameGroup(got, c.want) {
			t.Errorf("GroupOf(%s) = %v", keepText(c.k), got)
		}
	}
	eachGroup(func(now int, next int, g impl.Group) {
		if got := impl.GroupOf(impl.KeepNew(g)); !sameGroup(got, g) {
			t.Fatalf("of KeepNew(%v): %v", g, got)
		}
		k := kept(3, 0, 0, 0, "", regroup(1, 7, 12), regroup(2, byte(now), byte(next)), noop(3))
		if got := impl.GroupOf(k); !sameGroup(got, g) {
			t.Fatalf("GroupOf(%s) = %v", keepText(k), got)
		}
	})
}

// Of each Keep, right or wrong, the three that look at it are held against a plain reading, at all indexes around its own.
func TestLooksAtRightAndWrongKeeps(t *testing.T) {
	look := func(k impl.Keep, right bool) {
		index, term := checkLast(t, k)
		if !right && (index != 0 || term != 0) {
			t.Fatalf("LastEntry(%s) = %d, %d", keepText(k), index, term)
		}
		if g := checkGroupOf(t, k); impl.GroupOk(g) != right {
			t.Fatalf("GroupOf(%s) = %v", keepText(k), g)
		}
		list := []int{math.MinInt, -1, 0, 1, 2, k.Base - 2, k.Base - 1, k.Base, k.Base + 1, lastOf(k) - 1, lastOf(k), lastOf(k) + 1, lastOf(k) + 2, k.Base + mostLog, math.MaxInt}
		for _, at := range list {
			if _, ok := checkTerm(t, k, at); ok && !right {
				t.Fatalf("TermAt(%s, %d)", keepText(k), at)
			}
		}
		if last, ok := checkTerm(t, k, index); ok != right || last != term {
			t.Fatalf("the last of %s: %d, %v, not %d", keepText(k), last, ok, term)
		}
	}
	for _, k := range rightKeeps() {
		look(k, true)
	}
	for _, k := range wrongKeeps() {
		look(k, false)
	}
}

// someKept has the entries 4 to 6 behind a snapshot up to 3.
func someKept() impl.Keep {
	return kept(4, 1, 3, 2, "snap", noop(2), asked(3, "five"), asked(3, "six"))
}

// A redoCase is one record, and what someKept is behind it; not done, it stays.
type redoCase struct {
	name  string
	inner []byte
	want  impl.Keep
	done  bool
}

func checkRedoCases(t *testing.T, list []redoCase) {
	t.Helper()
	for _, c := range list {
		want, place := c.want, len(frameOf(c.inner))
		if !c.done {
			want, place = someKept(), 0
		}
		if got, at := checkRedo(t, someKept(), frameOf(c.inner)); at != place || !sameKeep(got, want) {
			t.Errorf("%s: %s, %d", c.name, keepText(got), at)
		}
		// Between two others, the first of which is done in any case; the second follows only where this one is done.
		first, last := voteInner(4, 5), voteInner(4, 6)
		want.Vote, place = 5, len(frameOf(first))
		if c.done {
			want, place = c.want, len(framesOf(first, c.inner, last))
			want.Term, want.Vote = 4, 6
		}
		got, at := checkRedo(t, someKept(), framesOf(first, c.inner, last))
		if at != place || !sameKeep(got, want) {
			t.Errorf("%s between others: %s, %d", c.name, keepText(got), at)
		}
	}
}

func TestRedoOfNothing(t *testing.T) {
	for name, k := range rightKeeps() {
		for _, b := range [][]byte{nil, {}} {
			if got, at := checkRedo(t, k, b); at != 0 || !sameKeep(got, k) {
				t.Error(name, keepText(got), at)
			}
		}
	}
}

// A term may fall, as long as no entry is above it: the chapter asks for no more than KeepOk.
func TestRedoVotes(t *testing.T) {
	with := func(term int, vote int) impl.Keep {
		k := someKept()
		k.Term, k.Vote = term, vote
		return k
	}
	list := []redoCase{}
	for _, c := range []struct {
		term, vote int
		done       bool
	}{
		{4, 1, true}, {4, 0, true}, {4, 7, true}, {4, 8, false}, {4, -1, false}, {4, math.MaxInt, false}, {4, math.MinInt, false},
		{3, 1, true}, {3, 7, true}, {2, 1, false}, {1, 1, false}, {0, 0, false}, {-1, 0, false},
		{5, 2, true}, {lastTerm, 2, true}, {lastTerm + 1, 2, false}, {math.MaxInt, 2, false}, {math.MinInt, 2, false},
	} {
		list = append(list, redoCase{fmt.Sprint("vote ", c.term, " ", c.vote), voteInner(c.term, c.vote), with(c.term, c.vote), c.done})
	}
	// Behind this one the term is another, so it is asked for alone.
	for _, c := range list {
		want, place := c.want, len(frameOf(c.inner))
		if !c.done {
			want, place = someKept(), 0
		}
		if got, at := checkRedo(t, someKept(), frameOf(c.inner)); at != place || !sameKeep(got, want) {
			t.Errorf("%s: %s, %d", c.name, keepText(got), at)
		}
	}
	fresh := impl.KeepNew(groupOf([]int{1, 2, 3}))
	b := framesOf(voteInner(9, 3), voteInner(0, 0), voteInner(lastTerm, 7), voteInner(2, 1))
	if got, at := checkRedo(t, fresh, b); at != len(b) || got.Term != 2 || got.Vote != 1 {
		t.Error(keepText(got), at)
	}
}

func TestRedoEntries(t *testing.T) {
	log := someKept().Log
	with := func(count int, e impl.Entry) impl.Keep {
		k := someKept()
		k.Log = append(slices.Clone(log[:count]), e)
		return k
	}
	list := []redoCase{}
	add := func(index int, e impl.Entry, count int, done bool) {
		list = append(list, redoCase{fmt.Sprint("entry ", index, " ", entryText(e)), entryInner(index, e), with(count, e), done})
	}
	// Places.
	for _, index := range []int{math.MinInt, -1, 0, 1, 2, 3, 8, 9, 124, 1 << 32, math.MaxInt} {
		add(index, asked(3, "x"), 0, false)
	}
	for index := 4; index <= 7; index++ {
		add(index, asked(3, "x"), index-4, true)
		add(index, asked(4, ""), index-4, true)
		add(index, noop(4), index-4, true)
		add(index, regroup(4, 7, 12), index-4, true)
		add(index, asked(4, longText(mostCommand)), index-4, true)
	}
	// The same once more takes those behind it away.
	add(4, log[0], 0, true)
	add(5, log[1], 1, true)
	add(6, log[2], 2, true)
	// Terms.
	add(4, noop(0), 0, false)
	add(4, noop(1), 0, false)
	add(4, noop(2), 0, true)
	add(4, noop(5), 0, false)
	add(5, noop(1), 1, false)
	add(5, noop(2), 1, true)
	add(5, noop(5), 1, false)
	add(6, noop(2), 2, false)
	add(6, noop(3), 2, true)
	add(7, noop(2), 3, false)
	add(7, noop(3), 3, true)
	add(7, noop(5), 3, false)
	add(7, noop(-1), 3, false)
	add(7, noop(math.MaxInt), 3, false)
	// Kinds and data.
	for _, kind := range []int{math.MinInt, -1, 0, 4, 5, 257, math.MaxInt} {
		add(7, impl.Entry{Term: 4, Kind: kind}, 3, false)
	}
	add(7, impl.Entry{Term: 4, Kind: 1, Data: []byte("x")}, 3, false)
	add(7, asked(4, longText(mostCommand+1)), 3, false)
	add(7, asked(4, longText(19990)), 3, false)
	add(7, regroup(4, 0, 12), 3, false)
	add(7, regroup(4, 128, 0), 3, false)
	add(7, regroup(4, 1, 128), 3, false)
	add(7, impl.Entry{Term: 4, Kind: 3, Data: []byte{7}}, 3, false)
	add(7, impl.Entry{Term: 4, Kind: 3, Data: []byte{7, 0, 0}}, 3, false)
	add(7, impl.Entry{Term: 4, Kind: 3}, 3, false)
	checkRedoCases(t, list)
}

func TestRedoCuts(t *testing.T) {
	list := []redoCase{}
	for _, index := range []int{math.MinInt, -1, 0, 1, 2, 3, 7, 8, 1<<32 + 5, math.MaxInt} {
		list = append(list, redoCase{fmt.Sprint("cut ", index), cutInner(index), impl.Keep{}, false})
	}
	for index := 4; index <= 6; index++ {
		want := someKept()
		want.Log = want.Log[:index-4]
		list = append(list, redoCase{fmt.Sprint("cut ", index), cutInner(index), want, true})
	}
	checkRedoCases(t, list)
	for _, k := range []impl.Keep{kept(1, 0, 0, 0, ""), kept(4, 1, 3, 2, "snap")} {
		for index := -1; index < 6; index++ {
			if got, at := checkRedo(t, k, frameOf(cutInner(index))); at != 0 || !sameKeep(got, k) {
				t.Errorf("cut %d of %s: %s, %d", index, keepText(k), keepText(got), at)
			}
		}
	}
}

func TestRedoSnapshots(t *testing.T) {
	log, group := someKept().Log, []byte{7, 12}
	with := func(base int, baseTerm int, snap string, stay int) impl.Keep {
		return impl.Keep{Term: 4, Vote: 1, Base: base, BaseTerm: baseTerm, Group: groupOf([]int{1, 2, 3}, 3, 4), Snap: []byte(snap), Log: log[stay:]}
	}
	list := []redoCase{}
	for _, c := range []struct {
		base, baseTerm int
		snap           string
		stay           int
		done           bool
	}{
		// Base is not above, or past its bounds.
		{math.MinInt, 2, "new", 0, false}, {-1, 2, "new", 0, false}, {0, 0, "", 0, false}, {1, 1, "new", 0, false}, {2, 2, "new", 0, false}, {3, 2, "new", 0, false}, {3, 2, "snap", 0, false}, {3, 3, "new", 0, false},
		{lastBase + 1, 4, "new", 0, false}, {math.MaxInt, 4, "new", 0, false},
		// The entry was there with this term: those behind it stay.
		{4, 2, "new", 1, true}, {5, 3, "new", 2, true}, {6, 3, "new", 3, true}, {4, 2, "", 1, true},
		// It was there with another term.
		{4, 1, "new", 3, true}, {4, 3, "new", 3, true}, {4, 4, "new", 3, true}, {5, 1, "new", 3, true}, {5, 2, "new", 3, true}, {5, 4, "new", 3, true}, {6, 2, "new", 3, true}, {6, 4, "new", 3, true},
		// It was not there.
		{7, 3, "new", 3, true}, {7, 1, "new", 3, true}, {8, 4, "", 3, true}, {123, 2, "new", 3, true}, {124, 2, "new", 3, true}, {lastBase, 4, "new", 3, true},
		// Its term is none, or above the term.
		{4, 0, "new", 3, false}, {7, 0, "new", 3, false}, {4, -1, "new", 3, false}, {7, math.MinInt, "new", 3, false}, {4, 5, "new", 3, false}, {7, 5, "new", 3, false}, {7, lastTerm + 1, "new", 3, false}, {7, math.MaxInt, "new", 3, false},
		{5, 3, longText(18000), 2, true},
	} {
		list = append(list, redoCase{fmt.Sprintf("snapshot %d of %d, %d bytes", c.base, c.baseTerm, len(c.snap)), snapInner(c.base, c.baseTerm, group, []byte(c.snap)), with(c.base, c.baseTerm, c.snap, c.stay), c.done})
	}
	for _, wrong := range [][]byte{nil, {7}, {0, 0}, {0, 7}, {128, 0}, {7, 128}, {255, 255}, {7, 12, 0}, {7, 12, 7, 12}} {
		list = append(list, redoCase{fmt.Sprint("group ", wrong), snapInner(5, 3, wrong, []byte("new")), impl.Keep{}, false})
	}
	checkRedoCases(t, list)
	eachGroup(func(now int, next int, g impl.Group) {
		b := frameOf(snapInner(5, 3, []byte{byte(now), byte(next)}, []byte("new")))
		if got, at := impl.Redo(someKept(), b); at != len(b) || !sameGroup(got.Group, g) || len(got.Log) != 1 {
			t.Fatalf("of the group %v: %s, %d", g, keepText(got), at)
		}
	})
}

// A snapshot whose bytes just fit into a frame is read, too.
func TestRedoOfTheLongestSnapshot(t *testing.T) {
	ahead := len(snapInner(5, 3, []byte{7, 0}, []byte(longText(19000)))) - 19000
	snap := []byte(longText(longestFrame - ahead))
	inner := snapInner(5, 3, []byte{7, 0}, snap)
	if len(inner) != longestFrame {
		t.Fatal(len(inner))
	}
	if got, at := checkRedo(t, someKept(), frameOf(inner)); at != len(frameOf(inner)) || got.Base != 5 || !bytes.Equal(got.Snap, snap) {
		t.Error(keepText(got), at)
	}
	longer := snapInner(5, 3, []byte{7, 0}, append(snap, 'x'))
	if got, at := checkRedo(t, someKept(), framesOf(longer, voteInner(9, 1))); at != 0 || !sameKeep(got, someKept()) {
		t.Error(keepText(got), at)
	}
}

// The log has all that it may have: one more is refused, one in the place of the last is not.
func TestRedoOfAFullLog(t *testing.T) {
	for _, base := range []int{0, 1, 77, lastBase - mostLog} {
		k := kept(9, 1, base, min(base, 1), "", noops(9, mostLog)...)
		for index, done := range map[int]bool{base: false, base + 1: true, base + 2: true, base + mostLog - 1: true, base + mostLog: true, base + mostLog + 1: false, base + mostLog + 2: false} {
			b := frameOf(entryInner(index, asked(9, "more")))
			got, at := checkRedo(t, k, b)
			if done != (at == len(b)) || done && lastOf(got) != index || !done && !sameKeep(got, k) {
				t.Errorf("entry %d behind base %d: %s, %d", index, base, keepText(got), at)
			}
		}
		for index, done := range map[int]bool{base: false, base + 1: true, base + mostLog: true, base + mostLog + 1: false} {
			b := frameOf(cutInner(index))
			if got, at := checkRedo(t, k, b); done != (at == len(b)) || done && lastOf(got) != index-1 {
				t.Errorf("cut %d behind base %d: %s, %d", index, base, keepText(got), at)
			}
		}
	}
	k := kept(9, 1, 0, 0, "", noops(9, mostLog)...)
	b := framesOf(snapInner(1, 9, []byte{7, 0}, nil), entryInner(mostLog+1, noop(9)), entryInner(mostLog+2, noop(9)))
	if got, at := checkRedo(t, k, b); lastOf(got) != mostLog+1 || got.Base != 1 || at != frameEnds(b)[2] {
		t.Error(keepText(got), at)
	}
}

func TestRedoOfRecordsBehindOneAnother(t *testing.T) {
	fresh := impl.KeepNew(groupOf([]int{1, 2, 3}))
	list := []struct {
		inner []byte
		want  impl.Keep
	}{
		{voteInner(2, 3), kept(2, 3, 0, 0, "")},
		{entryInner(1, noop(1)), kept(2, 3, 0, 0, "", noop(1))},
		{entryInner(2, asked(2, "x")), kept(2, 3, 0, 0, "", noop(1), asked(2, "x"))},
		{entryInner(3, regroup(2, 7, 12)), kept(2, 3, 0, 0, "", noop(1), asked(2, "x"), regroup(2, 7, 12))},
		{cutInner(3), kept(2, 3, 0, 0, "", noop(1), asked(2, "x"))},
		{voteInner(5, 0), kept(5, 0, 0, 0, "", noop(1), asked(2, "x"))},
		{entryInner(3, noop(4)), kept(5, 0, 0, 0, "", noop(1), asked(2, "x"), noop(4))},
		{entryInner(4, asked(5, "y")), kept(5, 0, 0, 0, "", noop(1), asked(2, "x"), noop(4), asked(5, "y"))},
		{snapInner(2, 2, []byte{7, 0}, []byte("two")), kept(5, 0, 2, 2, "two", noop(4), asked(5, "y"))},
		{entryInner(3, noop(3)), kept(5, 0, 2, 2, "two", noop(3))},
		{entryInner(4, asked(5, "z")), kept(5, 0, 2, 2, "two", noop(3), asked(5, "z"))},
		{snapInner(3, 3, []byte{7, 0}, []byte("three")), kept(5, 0, 3, 3, "three", asked(5, "z"))},
		{snapInner(4, 4, []byte{7, 0}, nil), kept(5, 0, 4, 4, "")},
		{entryInner(5, asked(5, "w")), kept(5, 0, 4, 4, "", asked(5, "w"))},
		{cutInner(5), kept(5, 0, 4, 4, "")},
		{snapInner(900, 5, []byte{7, 0}, []byte("far")), kept(5, 0, 900, 5, "far")},
		{entryInner(901, noop(5)), kept(5, 0, 900, 5, "far", noop(5))},
	}
	inners := [][]byte{}
	for i, c := range list {
		inners = append(inners, c.inner)
		b := framesOf(inners...)
		if got, at := checkRedo(t, fresh, b); at != len(b) || !sameKeep(got, c.want) {
			t.Fatalf("%d records: %s, %d of %d, not %s", i+1, keepText(got), at, len(b), keepText(c.want))
		}
	}
}

// wrongInners are bytes of a frame that are no record, each beside a right one by one thing.
func wrongInners() map[string][]byte {
	list := map[string][]byte{
		"nothing":                 {},
		"long and nothing":        make([]byte, 300),
		"kind 1 alone":            {1},
		"kind 2 alone":            {2},
		"kind 3 alone":            {3},
		"kind 4 alone":            {4},
		"vote without vote":       {1, 4},
		"cut number":              {3, 0x84},
		"needless byte, kind":     {0x81, 0, 4, 1},
		"needless byte, term":     {1, 0x84, 0, 1},
		"needless byte, vote":     {1, 4, 0x81, 0},
		"needless byte, cut":      {3, 0x85, 0},
		"needless byte, index":    {2, 0x84, 0, 3, 1, 0},
		"needless byte, data":     {2, 4, 3, 1, 0x80, 0},
		"needless byte, group":    {4, 5, 3, 0x82, 0, 7, 12, 0},
		"needless byte, snap":     {4, 5, 3, 2, 7, 12, 0x80, 0},
		"more than 64 bits":       {3, 255, 255, 255, 255, 255, 255, 255, 255, 255, 2},
		"endless number":          {3, 255, 255, 255, 255, 255, 255, 255, 255, 255, 255, 1},
		"data one short":          {2, 4, 3, 2, 2, 'x'},
		"data far longer":         {2, 4, 3, 2, 255, 255, 3, 'x'},
		"data below 0":            append(numsBytes(2, 4, 3, 2, -1), 'x'),
		"snap one short":          {4, 5, 3, 2, 7, 12, 2, 's'},
		"group one short":         {4, 5, 3, 2, 7},
		"snap without group":      {4, 5, 3, 0, 1, 's'},
		"a frame within":          frameOf(voteInner(4, 7)),
		"two records":             slices.Concat(voteInner(4, 7), voteInner(4, 7)),
		"two records, an entry's": slices.Concat(cutInner(5), entryInner(5, noop(3))),
	}
	for kind := range 256 {
		if kind < 1 || kind > 4 {
			list[fmt.Sprint("kind ", kind)] = append([]byte{byte(kind)}, voteInner(4, 7)[1:]...)
			list[fmt.Sprint("kind ", kind, " of an entry")] = append([]byte{byte(kind)}, entryInner(4, noop(3))[1:]...)
			list[fmt.Sprint("kind ", kind, " alone")] = []byte{byte(kind)}
		}
	}
	for kind := range rightInners() {
		inner := rightInners()[kind]
		for _, more := range []byte{0, 1, 2, 3, 4, 128, 255} {
			list[fmt.Sprint("one left over, ", more, " behind ", kind)] = append(slices.Clone(inner), more)
			list[fmt.Sprint("two left over, ", more, " behind ", kind)] = append(slices.Clone(inner), more, 0)
		}
		for cut := range len(inner) {
			list[fmt.Sprint("cut at ", cut, ": ", kind)] = inner[:cut]
		}
	}
	return list
}

// rightInners are done by someKept.
func rightInners() map[string][]byte {
	return map[string][]byte{
		"vote":            voteInner(300, 7),
		"noop":            entryInner(4, noop(3)),
		"entry":           entryInner(7, asked(4, "seven")),
		"group":           entryInner(5, regroup(4, 7, 12)),
		"cut":             cutInner(5),
		"snapshot":        snapInner(5, 3, []byte{7, 12}, []byte("five")),
		"empty snapshot":  snapInner(900, 3, []byte{7, 12}, nil),
		"entry of 0 data": entryInner(7, asked(4, "")),
	}
}

func TestRedoOfWrongRecords(t *testing.T) {
	for name, inner := range rightInners() {
		if _, at := checkRedo(t, someKept(), frameOf(inner)); at != len(frameOf(inner)) {
			t.Error("not done:", name)
		}
	}
	for name, inner := range wrongInners() {
		if got, at := checkRedo(t, someKept(), frameOf(inner)); at != 0 || !sameKeep(got, someKept()) {
			t.Errorf("%s: %s, %d", name, keepText(got), at)
		}
		first := frameOf(entryInner(7, asked(4, "seven")))
		want := someKept()
		want.Log = append(want.Log, asked(4, "seven"))
		if got, at := checkRedo(t, someKept(), slices.Concat(first, frameOf(inner), frameOf(voteInner(9, 2)))); at != len(first) || !sameKeep(got, want) {
			t.Errorf("%s between others: %s, %d", name, keepText(got), at)
		}
	}
}

// Each record's frame is torn at each byte, and each of its bits is turned; what stands ahead is done, what stands behind not.
func TestRedoOfTornAndBadFrames(t *testing.T) {
	first := frameOf(entryInner(7, asked(4, "seven")))
	want := someKept()
	want.Log = append(want.Log, asked(4, "seven"))
	for name, inner := range rightInners() {
		f := frameOf(inner)
		for cut := range len(f) {
			if got, at := checkRedoWith(t, someKept(), f[:cut], f[cut:]); at != 0 || !sameKeep(got, someKept()) {
				t.Fatalf("%s torn at %d: %s, %d", name, cut, keepText(got), at)
			}
			if got, at := checkRedoWith(t, someKept(), slices.Concat(first, f[:cut]), f[cut:]); at != len(first) || !sameKeep(got, want) {
				t.Fatalf("%s torn at %d behind another: %s, %d", name, cut, keepText(got), at)
			}
		}
		for bit := range 8 * len(f) {
			b := slices.Concat(first, turned(f, bit, 1), frameOf(voteInner(9, 2)))
			if got, at := checkRedo(t, someKept(), b); at != len(first) || !sameKeep(got, want) {
				t.Fatalf("%s, bit %d turned: %s, %d", name, bit, keepText(got), at)
			}
		}
	}
	for name, b := range map[string][]byte{
		"0":              {0},
		"noughts":        make([]byte, 40),
		"255s":           bytes.Repeat([]byte{255}, 40),
		"needless bytes": withSum(append([]byte{0x83, 0}, voteInner(4, 7)...)...),
		"below 0":        withSum(append(numBytes(-1), voteInner(4, 7)...)...),
		"too long":       frameOf(make([]byte, longestFrame+1)),
		"no sum":         append([]byte{3}, voteInner(4, 7)...),
		"no frame":       voteInner(4, 7),
	} {
		if got, at := checkRedo(t, someKept(), b); at != 0 || !sameKeep(got, someKept()) {
			t.Errorf("%s: %s, %d", name, keepText(got), at)
		}
		if got, at := checkRedo(t, someKept(), slices.Concat(first, b, first)); at != len(first) || !sameKeep(got, want) {
			t.Errorf("%s behind another: %s, %d", name, keepText(got), at)
		}
	}
}

// A wrong Keep stays, also where the records would mend it.
func TestRedoOfWrongKeeps(t *testing.T) {
	lists := map[string][]byte{
		"nothing":   {},
		"a vote":    frameOf(voteInner(lastTerm, 7)),
		"an entry":  frameOf(entryInner(1, noop(1))),
		"a cut":     frameOf(cutInner(1)),
		"cut at 2":  frameOf(cutInner(2)),
		"snapshot":  frameOf(snapInner(1000, 1, []byte{7, 0}, []byte("s"))),
		"all":       framesOf(voteInner(9, 7), snapInner(1000, 1, []byte{7, 0}, []byte("s")), entryInner(1001, noop(1))),
		"no frame":  {1, 2, 3},
		"no record": frameOf([]byte{9}),
	}
	for name, k := range wrongKeeps() {
		for what, b := range lists {
			if got, at := checkRedo(t, k, b); at != 0 || !sameKeep(got, k) {
				t.Errorf("%s, %s: %s, %d", name, what, keepText(got), at)
			}
		}
	}
	mended := kept(1, 0, 0, 0, "", noop(2))
	if got, at := checkRedo(t, mended, frameOf(voteInner(2, 0))); at != 0 || !sameKeep(got, mended) {
		t.Error(keepText(got), at)
	}
}

// Each record, at all places and terms around, of each right Keep.
func TestRedoOfEveryRecordAndKeep(t *testing.T) {
	done, refused := 0, 0
	for _, k := range rightKeeps() {
		terms := []int{0, 1, k.BaseTerm - 1, k.BaseTerm, k.Term - 1, k.Term, k.Term + 1}
		places := []int{k.Base - 1, k.Base, k.Base + 1, k.Base + 2, lastOf(k) - 1, lastOf(k), lastOf(k) + 1, lastOf(k) + 2}
		inners := [][]byte{}
		for _, place := range places {
			inners = append(inners, cutInner(place))
			for _, term := range terms {
				inners = append(inners, entryInner(place, asked(term, "x")), snapInner(place, term, []byte{1, 0}, []byte("s")))
			}
			if e, there := entryAt(k, place); there {
				inners = append(inners, snapInner(place, e.Term, []byte{1, 0}, []byte("s")), snapInner(place, e.Term+1, []byte{1, 0}, []byte("s")), entryInner(place, e))
			}
		}
		for _, term := range terms {
			inners = append(inners, voteInner(term, 0), voteInner(term, 7))
		}
		for _, inner := range inners {
			if _, at := checkRedo(t, k, frameOf(inner)); at > 0 {
				done++
			} else {
				refused++
			}
		}
	}
	if done < 500 || refused < 500 {
		t.Error(done, refused)
	}
}

func TestRecordsTable(t *testing.T) {
	a := someKept()
	with := func(change func(*impl.Keep)) impl.Keep {
		k := cloneKeep(a)
		change(&k)
		return k
	}
	snap := func(base int, baseTerm int, log ...impl.Entry) impl.Keep {
		k := kept(4, 1, base, baseTerm, "new", log...)
		k.Group = groupOf([]int{1, 2, 3}, 3, 4)
		return k
	}
	group, four, five, six := []byte{7, 12}, a.Log[0], a.Log[1], a.Log[2]
	for _, c := range []struct {
		name string
		b    impl.Keep
		want [][]byte
	}{
		{"the same", a, nil},
		{"another vote", with(func(k *impl.Keep) { k.Vote = 2 }), [][]byte{voteInner(4, 2)}},
		{"no vote", with(func(k *impl.Keep) { k.Vote = 0 }), [][]byte{voteInner(4, 0)}},
		{"a term", with(func(k *impl.Keep) { k.Term = 5 }), [][]byte{voteInner(5, 1)}},
		{"a term and a vote", with(func(k *impl.Keep) { k.Term, k.Vote = 300, 0 }), [][]byte{voteInner(300, 0)}},
		{"the last gone", with(func(k *impl.Keep) { k.Log = k.Log[:2] }), [][]byte{cutInner(6)}},
		{"two gone", with(func(k *impl.Keep) { k.Log = k.Log[:1] }), [][]byte{cutInner(5)}},
		{"all gone", with(func(k *impl.Keep) { k.Log = nil }), [][]byte{cutInner(4)}},
		{"one more", with(func(k *impl.Keep) { k.Log = append(k.Log, asked(4, "x")) }), [][]byte{entryInner(7, asked(4, "x"))}},
		{"three more", with(func(k *impl.Keep) { k.Log = append(k.Log, noop(3), regroup(4, 7, 12), asked(4, "")) }), [][]byte{entryInner(7, noop(3)), entryInner(8, regroup(4, 7, 12)), entryInner(9, asked(4, ""))}},
		{"the last otherwise", with(func(k *impl.Keep) { k.Log[2] = asked(3, "sex") }), [][]byte{entryInner(6, asked(3, "sex"))}},
		{"its term alone", with(func(k *impl.Keep) { k.Log[2] = asked(4, "six") }), [][]byte{entryInner(6, asked(4, "six"))}},
		{"its kind alone", with(func(k *impl.Keep) { k.Log[0] = asked(2, "") }), [][]byte{entryInner(4, asked(2, "")), entryInner(5, five), entryInner(6, six)}},
		{"the first otherwise", with(func(k *impl.Keep) { k.Log[0] = noop(3) }), [][]byte{entryInner(4, noop(3)), entryInner(5, five), entryInner(6, six)}},
		{"the middle otherwise", with(func(k *impl.Keep) { k.Log[1] = noop(3) }), [][]byte{entryInner(5, noop(3)), entryInner(6, six)}},
		{"otherwise and fewer", with(func(k *impl.Keep) { k.Log = []impl.Entry{four, noop(3)} }), [][]byte{entryInner(5, noop(3))}},
		{"otherwise, one alone", with(func(k *impl.Keep) { k.Log = []impl.Entry{noop(4)} }), [][]byte{entryInner(4, noop(4))}},
		{"otherwise and more", with(func(k *impl.Keep) { k.Log = []impl.Entry{four, noop(3), six, noop(3)} }), [][]byte{entryInner(5, noop(3)), entryInner(6, six), entryInner(7, noop(3))}},
		{"a term and one more", with(func(k *impl.Keep) { k.Term, k.Log = 9, append(k.Log, noop(9)) }), [][]byte{voteInner(9, 1), entryInner(7, noop(9))}},
		{"a term and one gone", with(func(k *impl.Keep) { k.Term, k.Log = 9, k.Log[:2] }), [][]byte{voteInner(9, 1), cutInner(6)}},
		// Snapshots: what stays by them is not told again.
		{"up to 4, all else stays", snap(4, 2, five, six), [][]byte{snapInner(4, 2, group, []byte("new"))}},
		{"up to 4, one gone", snap(4, 2, five), [][]byte{snapInner(4, 2, group, []byte("new")), cutInner(6)}},
		{"up to 4, all gone", snap(4, 2), [][]byte{snapInner(4, 2, group, []byte("new")), cutInner(5)}},
		{"up to 4, one more", snap(4, 2, five, six, noop(4)), [][]byte{snapInner(4, 2, group, []byte("new")), entryInner(7, noop(4))}},
		{"up to 4, one otherwise", snap(4, 2, five, noop(3)), [][]byte{snapInner(4, 2, group, []byte("new")), entryInner(6, noop(3))}},
		{"up to 4, both otherwise", snap(4, 2, noop(4), noop(4)), [][]byte{snapInner(4, 2, group, []byte("new")), entryInner(5, noop(4)), entryInner(6, noop(4))}},
		{"up to 4 of another term", snap(4, 3, five, six), [][]byte{snapInner(4, 3, group, []byte("new")), entryInner(5, five), entryInner(6, six)}},
		{"up to 4 of another term, none", snap(4, 3), [][]byte{snapInner(4, 3, group, []byte("new"))}},
		{"up to 5", snap(5, 3, six), [][]byte{snapInner(5, 3, group, []byte("new"))}},
		{"up to the last", snap(6, 3), [][]byte{snapInner(6, 3, group, []byte("new"))}},
		{"up to the last, and more", snap(6, 3, noop(4)), [][]byte{snapInner(6, 3, group, []byte("new")), entryInner(7, noop(4))}},
		{"one behind the last", snap(7, 3), [][]byte{snapInner(7, 3, group, []byte("new"))}},
		{"one behind the last, and more", snap(7, 3, noop(3), asked(4, "x")), [][]byte{snapInner(7, 3, group, []byte("new")), entryInner(8, noop(3)), entryInner(9, asked(4, "x"))}},
		{"far behind", snap(lastBase-1, 4, noop(4)), [][]byte{snapInner(lastBase-1, 4, group, []byte("new")), entryInner(lastBase, noop(4))}},
		{"as far as may be", snap(lastBase, 4), [][]byte{snapInner(lastBase, 4, group, []byte("new"))}},
		{"all of it", kept(300, 7, 5, 3, "", asked(3, "sex"), noop(300)), [][]byte{voteInner(300, 7), snapInner(5, 3, []byte{7, 0}, nil), entryInner(6, asked(3, "sex")), entryInner(7, noop(300))}},
		{"a snapshot of a later term", kept(9, 0, 8, 9, "s"), [][]byte{voteInner(9, 0), snapInner(8, 9, []byte{7, 0}, []byte("s"))}},
		{"all, and one gone", kept(5, 1, 4, 2, "s", five), [][]byte{voteInner(5, 1), snapInner(4, 2, []byte{7, 0}, []byte("s")), cutInner(6)}},
	} {
		if got := checkGoesOn(t, a, c.b); !bytes.Equal(got, framesOf(c.want...)) {
			t.Errorf("%s: %x, not %x", c.name, got, framesOf(c.want...))
		}
		if got := impl.Records(a, c.b); !bytes.Equal(got, framesOf(c.want...)) {
			t.Errorf("%s: %x, not %x", c.name, got, framesOf(c.want...))
		}
	}
}

func TestRecordsRefused(t *testing.T) {
	a := someKept()
	other := func(change func(*impl.Keep)) impl.Keep {
		k := cloneKeep(a)
		k.Vote = 2
		change(&k)
		return k
	}
	for name, b := range map[string]impl.Keep{
		"a term less":               other(func(k *impl.Keep) { k.Term = 3 }),
		"a term less, more entries": other(func(k *impl.Keep) { k.Term, k.Log = 3, append(k.Log, noop(3)) }),
		"a Base less":               kept(4, 1, 2, 2, "snap", noop(2)),
		"a Base less, longer":       kept(4, 1, 2, 2, "snap", noop(2), noop(2), asked(3, "five"), asked(3, "six"), noop(4)),
		"no Base":                   kept(4, 1, 0, 0, "", noop(1), noop(2), noop(2), noop(2)),
		"another BaseTerm":          other(func(k *impl.Keep) { k.BaseTerm = 1 }),
		"another group":             other(func(k *impl.Keep) { k.Group = groupOf([]int{1, 2}) }),
		"a joint group":             other(func(k *impl.Keep) { k.Group = groupOf([]int{1, 2, 3}, 3, 4) }),
		"another snapshot":          other(func(k *impl.Keep) { k.Snap = []byte("snip") }),
		"a longer snapshot":         other(func(k *impl.Keep) { k.Snap = []byte("snaps") }),
		"a shorter snapshot":        other(func(k *impl.Keep) { k.Snap = []byte("sna") }),
		"an empty snapshot":         other(func(k *impl.Keep) { k.Snap = nil }),
		"all of these":              kept(3, 2, 3, 1, "snip"),
	} {
		if !keepRight(b) {
			t.Fatal("not right:", name)
		}
		if got := checkRecords(t, a, b); len(got) != 0 || len(impl.Records(a, b)) != 0 {
			t.Errorf("%s: %x", name, got)
		}
	}
	// At Base 0 the group alone may be another.
	if got := checkRecords(t, impl.KeepNew(groupOf([]int{1})), withGroup(kept(5, 1, 0, 0, "", noop(1)), groupOf([]int{1, 2}))); len(got) != 0 {
		t.Errorf("another first group: %x", got)
	}
	joint := impl.KeepNew(groupOf([]int{1, 2}, 3))
	if got := checkRecords(t, joint, withGroup(kept(5, 1, 0, 0, "", noop(1)), groupOf([]int{1, 2}, 4))); len(got) != 0 {
		t.Errorf("another Next at first: %x", got)
	}
}

func TestRecordsOfWrongKeeps(t *testing.T) {
	rights := []impl.Keep{kept(0, 0, 0, 0, ""), someKept(), kept(lastTerm, 7, lastBase, lastTerm, "snap")}
	for name, wrong := range wrongKeeps() {
		for _, right := range rights {
			for _, got := range [][]byte{impl.Records(wrong, right), impl.Records(right, wrong), impl.Records(wrong, wrong)} {
				if len(got) != 0 {
					t.Errorf("%s: %x", name, got)
				}
			}
			checkRecords(t, wrong, right)
			checkRecords(t, right, wrong)
		}
	}
}

// Each pair of right Keeps, of which one may become the other or not.
func TestRecordsOfEveryPair(t *testing.T) {
	names, keeps := []string{}, rightKeeps()
	for name := range keeps {
		names = append(names, name)
	}
	slices.Sort(names)
	counts := map[bool]int{}
	for _, from := range names {
		for _, to := range names {
			a, b := keeps[from], keeps[to]
			may := mayBecome(a, b) && len(b.Snap) < mostData
			counts[may]++
			if may {
				checkGoesOn(t, a, b)
			} else {
				checkRecords(t, a, b)
			}
		}
	}
	if counts[true] < 200 || counts[false] < 200 {
		t.Error(counts)
	}
}

// A snapshot may have more bytes than go into a frame: there is no record of it then, so there are none at all.
func TestRecordsOfTheLongestSnapshots(t *testing.T) {
	a := someKept()
	for _, base := range []int{5, 127, 128, 16384, lastBase - 1} {
		for length := mostData - 20; length <= mostData; length++ {
			b := kept(9, 3, base, 3, longText(length), noop(9))
			got := checkRecords(t, a, b)
			fits := len(snapInner(base, 3, []byte{7, 0}, b.Snap)) <= longestFrame
			if fits != (len(got) > 0) || fits != (len(impl.Records(a, b)) > 0) {
				t.Fatalf("up to %d, %d bytes: %d", base, length, len(got))
			}
			if !fits && length == mostData-20 || fits && length == mostData {
				t.Fatal(base, length, fits)
			}
			if x, at := impl.Redo(a, got); fits && (at != len(got) || !sameKeep(x, b)) {
				t.Fatalf("up to %d, %d bytes: %s, %d", base, length, keepText(x), at)
			}
		}
	}
	// It is no matter where the snapshot is the same.
	long := kept(4, 1, 3, 2, longText(mostData), noop(2))
	more := cloneKeep(long)
	more.Term, more.Log = 5, append(more.Log, noop(5))
	if got := checkGoesOn(t, long, more); !bytes.Equal(got, framesOf(voteInner(5, 1), entryInner(5, noop(5)))) {
		t.Errorf("%x", got)
	}
	if got := checkRecords(t, long, long); len(got) != 0 {
		t.Errorf("%x", got)
	}
}

// eachLog goes through all logs of at most so many entries, of two terms and three kinds of data.
func eachLog(count int, look func([]impl.Entry)) {
	kinds := []impl.Entry{noop(1), asked(1, ""), asked(1, "x"), asked(2, "x"), noop(2)}
	eachShortRow([]int{0, 1, 2, 3, 4}, count, func(row []int) {
		log := []impl.Entry{}
		for _, i := range row {
			log = append(log, kinds[i])
		}
		if slices.IsSortedFunc(log, func(x impl.Entry, y impl.Entry) int { return x.Term - y.Term }) {
			look(log)
		}
	})
}

// Every log of up to three entries becomes every other one, with and without a snapshot that takes the first one or two of them.
func TestRecordsOfEveryShortLog(t *testing.T) {
	count := 0
	eachLog(3, func(log []impl.Entry) {
		a := kept(2, 1, 0, 0, "", log...)
		eachLog(3, func(other []impl.Entry) {
			for base := range 3 {
				b := kept(2, 1, base, 0, "", other...)
				for b.BaseTerm = min(base, 1); keepRight(b); b.BaseTerm++ {
					r := impl.Records(a, b)
					if !bytes.Equal(r, recordsWanted(a, b)) {
						t.Fatalf("Records(%s, %s) = %x, not %x", keepText(a), keepText(b), r, recordsWanted(a, b))
					}
					for _, end := range frameEnds(r) {
						x, at := impl.Redo(a, r[:end])
						y, rest := impl.Redo(x, r[at:])
						if at != end || rest != len(r)-end || !sameKeep(y, b) || !keepRight(x) {
							t.Fatalf("from %s to %s by %s, %d", keepText(a), keepText(b), keepText(x), at)
						}
					}
					count++
				}
			}
		})
	})
	if count < 10000 {
		t.Error(count)
	}
}

// Records of all that is: 120 entries of 400 bytes behind the longest snapshot that fits.
func TestRecordsOfTheGreatestKeep(t *testing.T) {
	log := []impl.Entry{}
	for i := range mostLog {
		log = append(log, asked(lastTerm-mostLog+i, longText(mostCommand-1)+string(rune('a'+i%26))))
	}
	base := lastBase - mostLog
	b := kept(lastTerm, 7, base, lastTerm-mostLog, longText(19000), log...)
	for _, a := range []impl.Keep{kept(0, 0, 0, 0, ""), someKept(), kept(1, 1, 0, 0, "", noops(1, mostLog)...), kept(lastTerm-1, 1, base-1, 1, "", append([]impl.Entry{noop(lastTerm - mostLog)}, log[:mostLog-2]...)...)} {
		if r := checkGoesOn(t, a, b); len(r) < 19000 {
			t.Errorf("from %s: %d bytes", keepText(a), len(r))
		}
	}
	c := cloneKeep(b)
	c.Log = nil
	if r := checkGoesOn(t, b, c); !bytes.Equal(r, frameOf(cutInner(base+1))) {
		t.Errorf("%x", r)
	}
	if r := checkGoesOn(t, c, b); len(frameEnds(r)) != mostLog+1 {
		t.Error(len(r))
	}
}

// With each count of entries the last index goes from two ahead of the last one to two behind it: that one is taken, one more is not.
func TestKeepsAtTheLastIndex(t *testing.T) {
	for count := range mostLog + 1 {
		for last := lastBase - 2; last <= lastBase+2; last++ {
			k := kept(5, 1, last-count, 1, "snap", noops(4, count)...)
			right := last <= lastBase
			if got := checkKeep(t, k); got != right {
				t.Fatalf("%d entries up to %d: %v", count, last, got)
			}
			index, _ := checkLast(t, k)
			_, there := checkTerm(t, k, last)
			if g := checkGroupOf(t, k); there != right || (index == last) != right || impl.GroupOk(g) != right {
				t.Fatalf("%d entries up to %d: %d, %v, %v", count, last, index, there, g)
			}
		}
	}
}

// An entry's record is done up to the last index and not behind it; one in the place of another is done, and so is a cut.
func TestRedoAtTheLastIndex(t *testing.T) {
	for count := range 4 {
		for last := lastBase - 2; last <= lastBase; last++ {
			k := kept(5, 1, last-count, 1, "snap", noops(4, count)...)
			b, place := []byte{}, 0
			for index := last + 1; index <= lastBase+2; index++ {
				b = append(b, frameOf(entryInner(index, asked(5, "more")))...)
				if index <= lastBase {
					place = len(b)
				}
			}
			if got, at := checkRedo(t, k, b); at != place || lastOf(got) != lastBase || !impl.KeepOk(got) {
				t.Errorf("%d entries up to %d: %s, %d", count, last, keepText(got), at)
			}
			for _, inner := range [][]byte{entryInner(last, noop(5)), cutInner(last)} {
				if got, at := checkRedo(t, k, frameOf(inner)); (at > 0) != (count > 0) || !impl.KeepOk(got) {
					t.Errorf("%d entries up to %d: %s, %d", count, last, keepText(got), at)
				}
			}
		}
	}
	// A snapshot goes up to the last index, behind which nothing goes any more; entries stay behind one that is not so far.
	k := kept(5, 1, lastBase-3, 1, "snap", noop(2), noop(3), noop(4))
	for base := lastBase - 2; base <= lastBase; base++ {
		b := framesOf(snapInner(base, base-lastBase+4, []byte{7, 0}, []byte("new")), entryInner(lastBase+1, noop(5)))
		if got, at := checkRedo(t, k, b); at != frameEnds(b)[1] || got.Base != base || lastOf(got) != lastBase {
			t.Errorf("up to %d: %s, %d", base, keepText(got), at)
		}
	}
}

// What is kept goes on to the last index by its records; to what goes behind it there are none.
func TestRecordsAtTheLastIndex(t *testing.T) {
	for count := range 4 {
		a := kept(5, 1, lastBase-3, 1, "snap", noops(4, 1)...)
		b := kept(5, 1, lastBase-count, 4, "new", noops(4, count)...)
		if count == 3 {
			b.BaseTerm, b.Snap = 1, []byte("snap")
		}
		if r := checkGoesOn(t, a, b); len(r) == 0 {
			t.Errorf("%d entries: nothing", count)
		}
		c := cloneKeep(b)
		c.Log = append(c.Log, noop(5))
		for _, r := range [][]byte{checkRecords(t, a, c), checkRecords(t, b, c), checkRecords(t, c, c), checkRecords(t, c, b)} {
			if len(r) != 0 {
				t.Errorf("%d entries and one: %x", count, r)
			}
		}
	}
}

// What was answered stays, whatever happens to what was handed in, and to another answer.
func TestKeepsStayApart(t *testing.T) {
	first := func(k impl.Keep, at int) impl.Keep { return k }
	more := framesOf(voteInner(5, 2), entryInner(7, asked(5, "seven")), entryInner(8, regroup(5, 7, 7)))
	for name, call := range map[string]func(impl.Keep) impl.Keep{
		"new":             func(k impl.Keep) impl.Keep { return impl.KeepNew(k.Group) },
		"new of wrong":    func(k impl.Keep) impl.Keep { return impl.KeepNew(impl.Group{Next: k.Group.Now}) },
		"new, one memory": func(k impl.Keep) impl.Keep { return impl.KeepNew(impl.Group{Now: k.Group.Now, Next: k.Group.Now}) },
		"its group":       func(k impl.Keep) impl.Keep { return impl.Keep{Group: impl.GroupOf(k)} },
		"a log's group": func(k impl.Keep) impl.Keep {
			k.Log = append(slices.Clone(k.Log), regroup(4, 127, 127))
			return impl.Keep{Group: impl.GroupOf(k)}
		},
		"nothing redone":     func(k impl.Keep) impl.Keep { return first(impl.Redo(k, nil)) },
		"bad bytes":          func(k impl.Keep) impl.Keep { return first(impl.Redo(k, []byte{9, 9, 9, 9, 9})) },
		"refused":            func(k impl.Keep) impl.Keep { return first(impl.Redo(k, frameOf(cutInner(9)))) },
		"more":               func(k impl.Keep) impl.Keep { return first(impl.Redo(k, more)) },
		"more, then refused": func(k impl.Keep) impl.Keep { return first(impl.Redo(k, append(slices.Clone(more), 1))) },
		"a vote":             func(k impl.Keep) impl.Keep { return first(impl.Redo(k, frameOf(voteInner(9, 9-2)))) },
		"cut":                func(k impl.Keep) impl.Keep { return first(impl.Redo(k, frameOf(cutInner(6)))) },
		"all cut":            func(k impl.Keep) impl.Keep { return first(impl.Redo(k, frameOf(cutInner(4)))) },
		"cut and more": func(k impl.Keep) impl.Keep {
			return first(impl.Redo(k, framesOf(cutInner(5), entryInner(5, asked(4, "x")))))
		},
		"an entry otherwise": func(k impl.Keep) impl.Keep { return first(impl.Redo(k, frameOf(entryInner(4, asked(4, "x"))))) },
		"a snapshot": func(k impl.Keep) impl.Keep {
			return first(impl.Redo(k, frameOf(snapInner(4, 2, []byte{7, 7}, []byte("new")))))
		},
		"a snapshot, nothing": func(k impl.Keep) impl.Keep {
			return first(impl.Redo(k, frameOf(snapInner(4, 3, []byte{7, 7}, []byte("new")))))
		},
		"a wrong one": func(k impl.Keep) impl.Keep {
			k.Vote = 8
			return first(impl.Redo(k, more))
		},
		"a wrong one, nothing": func(k impl.Keep) impl.Keep {
			k.Term = 0
			return first(impl.Redo(k, nil))
		},
		"one memory": func(k impl.Keep) impl.Keep {
			data := []byte("data")
			k.Group.Next = k.Group.Now
			k.Snap = data
			k.Log = []impl.Entry{{Term: 2, Kind: 2, Data: data}, {Term: 3, Kind: 2, Data: data[:2]}}
			return first(impl.Redo(k, frameOf(voteInner(4, 2))))
		},
		"one memory, as it was": func(k impl.Keep) impl.Keep {
			data := []byte("data")
			k.Group.Next = k.Group.Now
			k.Snap = data
			k.Log = []impl.Entry{{Term: 2, Kind: 2, Data: data}, {Term: 9, Kind: 2, Data: data[2:]}}
			return first(impl.Redo(k, nil))
		},
	} {
		given := withGroup(someKept(), groupOf([]int{1, 2, 3}, 3, 4))
		askedKeep(t, given, call)
		one, two := call(given), call(given)
		was := cloneKeep(one)
		scribbleKeep(two)
		if !sameKeep(one, was) || !sameKeep(given, withGroup(someKept(), groupOf([]int{1, 2, 3}, 3, 4))) {
			t.Error("two answers share memory, or share it with what was handed in:", name)
		}
	}
}

// What two Keeps share is theirs: it is no matter that b was made of a's lists.
func TestRecordsOfKeepsThatShare(t *testing.T) {
	a := someKept()
	b := a
	b.Term, b.Log = 5, append(a.Log[:1], noop(5))
	a = someKept()
	if got := checkGoesOn(t, a, b); !bytes.Equal(got, framesOf(voteInner(5, 1), entryInner(5, noop(5)))) {
		t.Errorf("%x", got)
	}
	cut := a
	cut.Log = a.Log[:2]
	if got := impl.Records(a, cut); !bytes.Equal(got, frameOf(cutInner(6))) || !sameKeep(a, someKept()) {
		t.Errorf("%x", got)
	}
	if got := impl.Records(cut, a); !bytes.Equal(got, frameOf(entryInner(6, a.Log[2]))) || !sameKeep(a, someKept()) {
		t.Errorf("%x", got)
	}
	later := a
	later.Base, later.BaseTerm, later.Log = 4, 2, a.Log[1:]
	if got := impl.Records(a, later); !bytes.Equal(got, frameOf(snapInner(4, 2, []byte{7, 0}, []byte("snap")))) || !sameKeep(a, someKept()) {
		t.Errorf("%x", got)
	}
}

func someEntry(chance *rand.Rand, term int) impl.Entry {
	switch chance.Intn(4) {
	case 0:
		return noop(term)
	case 1:
		return regroup(term, byte(1+chance.Intn(127)), byte(chance.Intn(128)))
	}
	return asked(term, longText(pickedOf(chance, 0, 1, 2, 5, chance.Intn(mostCommand+1))))
}

// withMore has some entries more, of rising terms up to its own.
func withMore(chance *rand.Rand, k impl.Keep, most int) impl.Keep {
	for range chance.Intn(most + 1) {
		term := max(1, k.BaseTerm)
		if len(k.Log) > 0 {
			term = k.Log[len(k.Log)-1].Term
		}
		if k.Term < term || len(k.Log) == mostLog {
			break
		}
		k.Log = append(k.Log, someEntry(chance, term+chance.Intn(k.Term-term+1)))
	}
	return k
}

// withSnapshot is k behind a snapshot up to a later index: of an entry that it has, of its term or of another, or of one that it has not.
func withSnapshot(chance *rand.Rand, k impl.Keep) impl.Keep {
	base := k.Base + 1 + chance.Intn(len(k.Log)+3)
	e, there := entryAt(k, base)
	if there && chance.Intn(4) > 0 {
		k.Log = entriesOf(k, func(at int) bool { return at > base })
		k.BaseTerm = e.Term
	} else {
		k.Log = nil
		k.BaseTerm = max(1, k.BaseTerm) + chance.Intn(max(1, k.Term-k.BaseTerm))
	}
	k.Base = base
	k.Group = groupOfBits(1+chance.Intn(127), chance.Intn(128))
	k.Snap = []byte(longText(pickedOf(chance, 0, 1, 30, 500)))
	return k
}

// laterKeep is what k may become by a few changes at once.
func laterKeep(chance *rand.Rand, k impl.Keep, seen map[string]int) impl.Keep {
	k = cloneKeep(k)
	did := func(what string) bool {
		if chance.Intn(3) > 0 {
			return false
		}
		seen[what]++
		return true
	}
	if did("term") {
		k.Term = min(lastTerm, k.Term+1+chance.Intn(3))
	}
	if did("vote") {
		k.Vote = chance.Intn(mostNodes + 1)
	}
	if k.Term > 0 && did("snapshot") {
		k = withSnapshot(chance, k)
	}
	if len(k.Log) > 0 && did("cut") {
		k.Log = k.Log[:chance.Intn(len(k.Log))]
	}
	if did("more") {
		k = withMore(chance, k, 5)
	}
	if len(k.Log) > 0 && did("otherwise") {
		at := chance.Intn(len(k.Log))
		k.Log[at] = someEntry(chance, k.Log[at].Term)
	}
	return k
}

func TestKeepsMovedByAnyChanges(t *testing.T) {
	seen := map[string]int{}
	for seed := range 40 {
		chance := rand.New(rand.NewSource(int64(seed)))
		k := impl.KeepNew(groupOfBits(1+chance.Intn(127), chance.Intn(128)))
		for range 25 {
			later := laterKeep(chance, k, seen)
			if !mayBecome(k, later) {
				t.Fatalf("from %s to %s", keepText(k), keepText(later))
			}
			checkGoesOn(t, k, later)
			checkRecords(t, later, k)
			checkLast(t, later)
			checkGroupOf(t, later)
			checkTerm(t, later, later.Base+chance.Intn(len(later.Log)+2))
			k = later
		}
	}
	for _, what := range []string{"term", "vote", "snapshot", "cut", "more", "otherwise"} {
		if seen[what] < 50 {
			t.Error("hardly ever seen:", what, seen)
		}
	}
}

// Records of one change behind another lie in a file. It may be cut anywhere: what is redone is right, and is what was kept behind the last change that is there whole, or on its way from there to the next.
func TestKeepsComeBackOfAFile(t *testing.T) {
	for seed := range 6 {
		chance := rand.New(rand.NewSource(int64(100 + seed)))
		fresh := impl.KeepNew(groupOf([]int{1, 2, 3}))
		history, ends, f := []impl.Keep{fresh}, []int{0}, impl.File{}
		for len(history) < 30 {
			k := history[len(history)-1]
			later := laterKeep(chance, k, map[string]int{})
			f, _ = impl.FileAdd(f, impl.Records(k, later))
			history, ends = append(history, later), append(ends, len(f.Bytes))
		}
		if got, at := checkRedo(t, fresh, f.Bytes); at != len(f.Bytes) || !sameKeep(got, history[len(history)-1]) {
			t.Fatalf("%s, %d of %d", keepText(got), at, len(f.Bytes))
		}
		step := max(1, len(f.Bytes)/150)
		for cut := 0; cut <= len(f.Bytes); cut += step {
			crashed := impl.FileCrash(f, cut)
			got, at := checkRedoWith(t, fresh, crashed.Bytes, f.Bytes[cut:])
			last := 0
			for last+1 < len(ends) && ends[last+1] <= at {
				last++
			}
			if !impl.KeepOk(got) || at > cut || ends[last] == at && !sameKeep(got, history[last]) {
				t.Fatalf("cut at %d: %s, %d", cut, keepText(got), at)
			}
			if last+1 < len(history) {
				if on, end := impl.Redo(got, impl.Records(got, history[last+1])); !sameKeep(on, history[last+1]) || end != ends[last+1]-at {
					t.Fatalf("cut at %d: goes on to %s, not %s", cut, keepText(on), keepText(history[last+1]))
				}
			}
		}
	}
}

// someInner is often done, and often just not.
func someInner(chance *rand.Rand, k impl.Keep) []byte {
	term := k.Term + pickedOf(chance, -2, -1, 0, 0, 0, 1)
	index := k.Base + chance.Intn(len(k.Log)+4) - 1
	switch chance.Intn(9) {
	case 0, 1:
		return voteInner(term+chance.Intn(3), chance.Intn(9))
	case 2:
		return cutInner(index)
	case 3:
		e, _ := entryAt(k, index)
		return snapInner(index, pickedOf(chance, term, e.Term), []byte{byte(chance.Intn(130)), byte(chance.Intn(130))}, []byte("snap"))
	case 4:
		inner := voteInner(term, 1)
		return append(inner, make([]byte, chance.Intn(2))...)
	}
	return entryInner(pickedOf(chance, index, lastOf(k)+1), someEntry(chance, term))
}

// Frames of any records, right ones and wrong ones, with some bits turned, are redone as a plain reading does it.
func TestRedoOfAnyRecords(t *testing.T) {
	whole, stopped := 0, 0
	for seed := range 400 {
		chance := rand.New(rand.NewSource(int64(seed)))
		from := impl.KeepNew(groupOf([]int{1, 2, 3}))
		k, b := from, []byte{}
		for range 1 + chance.Intn(12) {
			inner := someInner(chance, k)
			if chance.Intn(40) == 0 {
				inner[chance.Intn(len(inner))] ^= 1 << chance.Intn(8)
			}
			if changed, done := recordDone(k, inner); done || chance.Intn(6) == 0 {
				b = append(b, frameOf(inner)...)
				if done {
					k = changed
				}
			}
		}
		if chance.Intn(4) == 0 && len(b) > 0 {
			b[chance.Intn(len(b))] ^= 1 << chance.Intn(8)
		}
		if _, at := checkRedo(t, from, b); at == len(b) {
			whole++
		} else {
			stopped++
		}
	}
	if whole < 50 || stopped < 50 {
		t.Error(whole, stopped)
	}
}

func TestRedoOfAnyBytes(t *testing.T) {
	for seed := range 300 {
		chance := rand.New(rand.NewSource(int64(seed)))
		b := make([]byte, chance.Intn(60))
		chance.Read(b)
		checkRedo(t, someKept(), b)
		checkRedo(t, someKept(), frameOf(b))
		for mark := range 6 {
			inner := []byte{byte(mark)}
			for range chance.Intn(7) {
				inner = append(inner, byte(chance.Intn(9)))
			}
			checkRedo(t, someKept(), slices.Concat(frameOf(inner), frameOf(voteInner(4, 2))))
		}
	}
}

// A file of as many bytes as may be, all of them records of a full log, is redone in good time.
func TestRedoOfAFullFile(t *testing.T) {
	k := kept(9, 1, 5, 2, longText(mostData), risingLog(2, 9, mostLog)...)
	last := k.Log[mostLog-1]
	pair := framesOf(cutInner(lastOf(k)), entryInner(lastOf(k), last))
	b := bytes.Repeat(pair, mostFile/len(pair))
	if got, at := impl.Redo(k, b); at != len(b) || !sameKeep(got, k) {
		t.Error(keepText(got), at, len(b))
	}
}
