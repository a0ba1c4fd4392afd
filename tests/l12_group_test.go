package tests

import (
	"bytes"
	"fmt"
	"math"
	"math/rand"
	"slices"
	"testing"

	"loop.example/g00113/impl"
)

const mostNodes = 7

// allRows is how many rows of Ids there are, the empty one too: each is the bits of a number below it.
const allRows = 1 << mostNodes

func groupOf(now []int, next ...int) impl.Group {
	return impl.Group{Now: now, Next: next}
}

// idsOf is the ascending row of a number's bits: the lowest is the Id 1.
func idsOf(bits int) []int {
	row := []int{}
	for id := 1; id <= mostNodes; id++ {
		if bits>>(id-1)&1 == 1 {
			row = append(row, id)
		}
	}
	return row
}

func groupOfBits(now int, next int) impl.Group {
	return impl.Group{Now: idsOf(now), Next: idsOf(next)}
}

// eachGroup goes through all right groups, joint or not.
func eachGroup(look func(now int, next int, g impl.Group)) {
	for now := 1; now < allRows; now++ {
		for next := range allRows {
			look(now, next, groupOfBits(now, next))
		}
	}
}

// rowRight holds each Id against all that stand ahead of it.
func rowRight(row []int) bool {
	for i, id := range row {
		if !isWithin(id, 1, mostNodes) {
			return false
		}
		for _, ahead := range row[:i] {
			if ahead >= id {
				return false
			}
		}
	}
	return true
}

func groupRight(g impl.Group) bool {
	return len(g.Now) != 0 && rowRight(g.Now) && rowRight(g.Next)
}

// sameGroup takes a row without Ids and nil for the same.
func sameGroup(a impl.Group, b impl.Group) bool {
	return slices.Equal(a.Now, b.Now) && slices.Equal(a.Next, b.Next)
}

func cloneGroup(g impl.Group) impl.Group {
	return impl.Group{Now: slices.Clone(g.Now), Next: slices.Clone(g.Next)}
}

func membersWanted(g impl.Group) []int {
	row := slices.Concat(g.Now, g.Next)
	slices.Sort(row)
	return slices.Compact(row)
}

func mostAmong(row []int, have []int) bool {
	in, out := 0, 0
	for _, id := range row {
		if slices.Index(have, id) >= 0 {
			in++
		} else {
			out++
		}
	}
	return in > out
}

func quorumWanted(g impl.Group, have []int) bool {
	if len(g.Next) == 0 {
		return mostAmong(g.Now, have)
	}
	return mostAmong(g.Now, have) && mostAmong(g.Next, have)
}

func jointWanted(g impl.Group, next []int) (impl.Group, bool) {
	if !groupRight(g) || len(g.Next) != 0 || !rowRight(next) || len(next) == 0 || slices.Equal(next, g.Now) {
		return g, false
	}
	return impl.Group{Now: g.Now, Next: next}, true
}

func settledWanted(g impl.Group) (impl.Group, bool) {
	if !groupRight(g) || len(g.Next) == 0 {
		return g, false
	}
	return impl.Group{Now: g.Next}, true
}

func groupBytesWanted(g impl.Group) []byte {
	if !groupRight(g) {
		return nil
	}
	powers := []byte{0, 1, 2, 4, 8, 16, 32, 64}
	sums := []byte{0, 0}
	for i, row := range [][]int{g.Now, g.Next} {
		for _, id := range row {
			sums[i] += powers[id]
		}
	}
	return sums
}

// idsBehind stand in the spare room of rows that are handed in: read as theirs they would make wrong what is right, and a quorum of what is none.
func idsBehind() []int {
	return []int{7, 6, 5, 4, 3, 2, 1, 0}
}

func roomyRow(row []int) []int {
	return slices.Concat(row, idsBehind())
}

// scribbleRow writes into all of a row's memory, its spare room too.
func scribbleRow(row []int) {
	for i := range row[:cap(row)] {
		row[:cap(row)][i] = -1000 - i
	}
}

// askedGroup hands g in with spare room behind both rows, and fails if the call changes them or the room, answers any of their memory or one memory twice, or answers otherwise when it is called again behind an answer that was written over.
func askedGroup(t *testing.T, g impl.Group, call func(impl.Group) impl.Group) impl.Group {
	t.Helper()
	now, next := roomyRow(g.Now), roomyRow(g.Next)
	keptNow, keptNext := slices.Clone(now), slices.Clone(next)
	stays := func(what string) {
		t.Helper()
		if !slices.Equal(now, keptNow) || !slices.Equal(next, keptNext) {
			t.Fatalf("%s: of %v came %v and %v", what, g, now, next)
		}
	}
	given := impl.Group{Now: now[:len(g.Now)], Next: next[:len(g.Next)]}
	first := call(given)
	answer := cloneGroup(first)
	stays("changed by the call, or the room behind")
	scribbleRow(first.Now)
	if !slices.Equal(first.Next, answer.Next) {
		t.Fatalf("what was answered for %v has one memory for both rows", g)
	}
	scribbleRow(first.Next)
	stays("what was answered has this memory")
	second := call(given)
	scribbleRow(now)
	scribbleRow(next)
	if !sameGroup(second, answer) {
		t.Fatalf("of %v first %v, then %v", g, answer, second)
	}
	return answer
}

// askedRow hands row in with spare room behind it, and fails if the call changes it or the room, or answers any of its memory.
func askedRow(t *testing.T, row []int, call func([]int) impl.Group) impl.Group {
	t.Helper()
	room := roomyRow(row)
	answer := call(room[:len(row)])
	if !slices.Equal(room, roomyRow(row)) {
		t.Fatalf("%v was changed, or what stands behind: %v", row, room)
	}
	kept := cloneGroup(answer)
	scribbleRow(room)
	if !sameGroup(answer, kept) {
		t.Fatalf("what was answered has the memory of %v", row)
	}
	return answer
}

func checkGroup(t *testing.T, g impl.Group) bool {
	t.Helper()
	ok := false
	askedGroup(t, g, func(x impl.Group) impl.Group {
		ok = impl.GroupOk(x)
		return impl.Group{}
	})
	if ok != groupRight(g) {
		t.Fatalf("GroupOk(%v) = %v", g, ok)
	}
	return ok
}

func checkMembers(t *testing.T, g impl.Group) []int {
	t.Helper()
	got := askedGroup(t, g, func(x impl.Group) impl.Group { return impl.Group{Now: impl.Members(x)} }).Now
	if want := membersWanted(g); !slices.Equal(got, want) {
		t.Fatalf("Members(%v) = %v, not %v", g, got, want)
	}
	return got
}

func checkQuorum(t *testing.T, g impl.Group, have []int) bool {
	t.Helper()
	ok := false
	askedGroup(t, g, func(x impl.Group) impl.Group {
		return askedRow(t, have, func(row []int) impl.Group {
			ok = impl.Quorum(x, row)
			return impl.Group{}
		})
	})
	if ok != quorumWanted(g, have) {
		t.Fatalf("Quorum(%v, %v) = %v", g, have, ok)
	}
	return ok
}

func checkJoint(t *testing.T, g impl.Group, next []int) (impl.Group, bool) {
	t.Helper()
	ok := false
	got := askedGroup(t, g, func(x impl.Group) impl.Group {
		return askedRow(t, next, func(row []int) (answer impl.Group) {
			answer, ok = impl.Joint(x, row)
			return answer
		})
	})
	if want, good := jointWanted(g, next); ok != good || !sameGroup(got, want) {
		t.Fatalf("Joint(%v, %v) = %v, %v, not %v, %v", g, next, got, ok, want, good)
	}
	return got, ok
}

func checkSettled(t *testing.T, g impl.Group) (impl.Group, bool) {
	t.Helper()
	ok := false
	got := askedGroup(t, g, func(x impl.Group) (answer impl.Group) {
		answer, ok = impl.Settled(x)
		return answer
	})
	if want, good := settledWanted(g); ok != good || !sameGroup(got, want) {
		t.Fatalf("Settled(%v) = %v, %v, not %v, %v", g, got, ok, want, good)
	}
	return got, ok
}

func checkPutGroup(t *testing.T, g impl.Group) []byte {
	t.Helper()
	got := []byte{}
	askedGroup(t, g, func(x impl.Group) impl.Group {
		first := impl.PutGroup(x)
		got = slices.Clone(first)
		scribbleBytes(first)
		if second := impl.PutGroup(x); !bytes.Equal(second, got) {
			t.Fatalf("PutGroup(%v): first %v, then %v", g, got, second)
		}
		return impl.Group{}
	})
	if want := groupBytesWanted(g); !bytes.Equal(got, want) {
		t.Fatalf("PutGroup(%v) = %v, not %v", g, got, want)
	}
	return got
}

// checkGetGroup hands b in with spare room, in which the bytes of a group stand.
func checkGetGroup(t *testing.T, b []byte) (impl.Group, bool) {
	t.Helper()
	room := slices.Concat(b, []byte{1, 3})
	kept := slices.Clone(room)
	first, good := impl.GetGroup(room[:len(b)])
	answer := cloneGroup(first)
	scribbleRow(first.Now)
	if !slices.Equal(first.Next, answer.Next) {
		t.Fatalf("GetGroup(%v) has one memory for both rows", b)
	}
	scribbleRow(first.Next)
	if !bytes.Equal(room, kept) {
		t.Fatalf("%v was changed, or what stands behind: %v", b, room)
	}
	second, ok := impl.GetGroup(room[:len(b)])
	if ok != good || !sameGroup(second, answer) {
		t.Fatalf("GetGroup(%v): first %v, %v, then %v, %v", b, answer, good, second, ok)
	}
	return answer, ok
}

// wrongRows are wrong as Now and as Next.
func wrongRows() map[string][]int {
	return map[string][]int{
		"0 alone":          {0},
		"0 ahead":          {0, 1, 2},
		"0 within":         {1, 0, 2},
		"0 behind":         {1, 2, 0},
		"one more":         {mostNodes + 1},
		"one more behind":  {1, 2, mostNodes + 1},
		"all and one more": upTo(mostNodes + 1),
		"0 and all":        {0, 1, 2, 3, 4, 5, 6, 7},
		"all from 0 on":    {0, 1, 2, 3, 4, 5, 6},
		"all but 1, more":  {2, 3, 4, 5, 6, 7, 8},
		"below":            {-1},
		"below ahead":      {-1, 1, 2},
		"least":            {math.MinInt},
		"greatest":         {math.MaxInt},
		"greatest behind":  {1, math.MaxInt},
		"8 bits wrapped":   {1, 258},
		"32 bits wrapped":  {1<<32 + 1, 1<<32 + 2},
		"two alike":        {1, 1},
		"two alike first":  {1, 1, 2},
		"two alike within": {1, 2, 2, 3},
		"two alike last":   {1, 2, 3, 3},
		"all, one twice":   {1, 2, 3, 4, 5, 6, 7, 7},
		"alike apart":      {1, 2, 1},
		"three alike":      {4, 4, 4},
		"two that fall":    {2, 1},
		"first two fall":   {2, 1, 3},
		"last two fall":    {1, 3, 2},
		"all fall":         {7, 6, 5, 4, 3, 2, 1},
		"far ones fall":    {2, 3, 1},
		"ends change":      {7, 2, 3, 4, 5, 6, 1},
		"far too many":     slices.Repeat([]int{1}, 300),
		"many, ascending":  upTo(300),
		"below and beyond": {-1, 8},
	}
}

// wrongGroups have one wrong row beside right ones, both wrong, or an empty Now.
func wrongGroups() map[string]impl.Group {
	list := map[string]impl.Group{
		"zero":            {},
		"empty":           {Now: []int{}, Next: []int{}},
		"Next alone":      groupOf(nil, 1, 2, 3),
		"empty and Next":  groupOf([]int{}, 1),
		"empty and wrong": groupOf(nil, 2, 1),
		"both wrong":      groupOf([]int{0, 1}, 8),
	}
	for name, row := range wrongRows() {
		list["Now "+name] = groupOf(row)
		list["Now of a joint one "+name] = groupOf(row, 1, 2)
		list["Now and Next "+name] = groupOf(row, row...)
		list["Next "+name] = groupOf([]int{1, 2, 3}, row...)
		list["Next behind one "+name] = groupOf([]int{7}, row...)
	}
	return list
}

func TestGroupConstants(t *testing.T) {
	if impl.MaxNodes != mostNodes {
		t.Error(impl.MaxNodes)
	}
}

func TestGroupOkTable(t *testing.T) {
	for _, c := range []struct {
		now, next []int
		want      bool
	}{
		{nil, nil, false},
		{[]int{}, nil, false},
		{nil, []int{1}, false},
		{[]int{}, upTo(7), false},
		{[]int{1}, nil, true},
		{[]int{1}, []int{}, true},
		{[]int{7}, nil, true},
		{[]int{4}, nil, true},
		{[]int{1, 7}, nil, true},
		{[]int{2, 3, 5}, nil, true},
		{upTo(7), nil, true},
		{upTo(8), nil, false},
		{[]int{0}, nil, false},
		{[]int{0, 1}, nil, false},
		{[]int{8}, nil, false},
		{[]int{7, 8}, nil, false},
		{[]int{-1}, nil, false},
		{[]int{-1, 1}, nil, false},
		{[]int{1, 1}, nil, false},
		{[]int{7, 7}, nil, false},
		{[]int{2, 1}, nil, false},
		{[]int{1, 3, 2}, nil, false},
		// The same of Next.
		{[]int{1}, []int{1}, true},
		{[]int{1}, []int{7}, true},
		{[]int{1}, []int{1, 7}, true},
		{[]int{2, 3}, []int{2, 3}, true},
		{[]int{1}, upTo(7), true},
		{upTo(7), upTo(7), true},
		{[]int{1}, upTo(8), false},
		{[]int{1}, []int{0}, false},
		{[]int{1}, []int{0, 1}, false},
		{[]int{1}, []int{8}, false},
		{[]int{1}, []int{7, 8}, false},
		{[]int{1}, []int{-1}, false},
		{[]int{1}, []int{-1, 1}, false},
		{[]int{1}, []int{1, 1}, false},
		{[]int{1}, []int{7, 7}, false},
		{[]int{1}, []int{2, 1}, false},
		{[]int{1}, []int{1, 3, 2}, false},
	} {
		if got := checkGroup(t, impl.Group{Now: c.now, Next: c.next}); got != c.want {
			t.Errorf("GroupOk of %v and %v: %v", c.now, c.next, got)
		}
	}
}

func TestGroupOkOfRightAndWrong(t *testing.T) {
	eachGroup(func(now int, next int, g impl.Group) {
		if !impl.GroupOk(g) {
			t.Error("not right:", g)
		}
	})
	for name, g := range wrongGroups() {
		if checkGroup(t, g) {
			t.Error("right:", name, g)
		}
	}
}

// eachShortRow goes through all rows of at most so many of these Ids, in any order.
func eachShortRow(ids []int, longest int, look func([]int)) {
	var rows func(row []int)
	rows = func(row []int) {
		look(slices.Clone(row))
		if len(row) == longest {
			return
		}
		for _, id := range ids {
			rows(append(row, id))
		}
	}
	rows([]int{})
}

func TestGroupOkOfEveryShortRow(t *testing.T) {
	counts := map[bool]int{}
	eachShortRow([]int{-1, 0, 1, 2, 3, 6, 7, 8}, 4, func(row []int) {
		for _, g := range []impl.Group{groupOf(row), groupOf(row, 3), groupOf([]int{2}, row...), groupOf(row, 3, 3), groupOf([]int{0}, row...)} {
			counts[checkGroup(t, g)]++
		}
	})
	eachShortRow([]int{0, 1, 2, 7, 8}, 2, func(now []int) {
		eachShortRow([]int{0, 1, 2, 7, 8}, 2, func(next []int) {
			counts[checkGroup(t, groupOf(now, next...))]++
		})
	})
	if counts[true] < 80 || counts[false] < 1000 {
		t.Error(counts)
	}
}

// In each right row one Id after the other is a wrong one, or changes its place with the next.
func TestGroupOkOfOneWrongId(t *testing.T) {
	wrong := []int{math.MinInt, -1, 0, 8, 9, 256, 257, 1 << 32, 1<<32 + 1, math.MaxInt}
	for bits := 1; bits < allRows; bits++ {
		row := idsOf(bits)
		look := func(other []int) {
			if checkGroup(t, groupOf(other)) || checkGroup(t, groupOf(other, row...)) || checkGroup(t, groupOf(row, other...)) {
				t.Errorf("%v for %v", other, row)
			}
		}
		for i := range row {
			for _, id := range wrong {
				other := slices.Clone(row)
				other[i] = id
				look(other)
			}
			look(slices.Insert(slices.Clone(row), i, row[i]))
			if i > 0 {
				other := slices.Clone(row)
				other[i-1], other[i] = other[i], other[i-1]
				look(other)
			}
		}
	}
}

func TestMembersTable(t *testing.T) {
	for _, c := range []struct {
		now, next, want []int
	}{
		{[]int{1}, nil, []int{1}},
		{[]int{7}, nil, []int{7}},
		{[]int{2, 4, 6}, nil, []int{2, 4, 6}},
		{upTo(7), nil, upTo(7)},
		{[]int{1}, []int{1}, []int{1}},
		{[]int{1}, []int{7}, []int{1, 7}},
		{[]int{7}, []int{1}, []int{1, 7}},
		{[]int{1, 2, 3}, []int{3, 4}, []int{1, 2, 3, 4}},
		{[]int{3, 4}, []int{1, 2, 3}, []int{1, 2, 3, 4}},
		{[]int{1, 3, 5, 7}, []int{2, 4, 6}, upTo(7)},
		{[]int{2, 4, 6}, []int{1, 3, 5, 7}, upTo(7)},
		{[]int{2, 3}, []int{1, 2, 3, 4}, []int{1, 2, 3, 4}},
		{[]int{1, 2, 3, 4}, []int{2, 3}, []int{1, 2, 3, 4}},
		{[]int{5, 6}, []int{5, 6}, []int{5, 6}},
		{upTo(7), upTo(7), upTo(7)},
		{upTo(7), []int{4}, upTo(7)},
		{[]int{4}, upTo(7), upTo(7)},
	} {
		if got := checkMembers(t, impl.Group{Now: c.now, Next: c.next}); !slices.Equal(got, c.want) {
			t.Errorf("Members of %v and %v: %v", c.now, c.next, got)
		}
	}
}

func TestMembersOfEveryGroup(t *testing.T) {
	eachGroup(func(now int, next int, g impl.Group) {
		if got := checkMembers(t, g); !slices.Equal(got, idsOf(now|next)) {
			t.Errorf("Members(%v) = %v", g, got)
		}
	})
}

// The chapter names no other answer for wrong groups: all that are in Now or Next, ascending.
func TestMembersOfWrongGroups(t *testing.T) {
	for name, g := range wrongGroups() {
		got := checkMembers(t, g)
		for i, id := range got {
			if i > 0 && got[i-1] >= id || !slices.Contains(g.Now, id) && !slices.Contains(g.Next, id) {
				t.Error(name, g, got)
			}
		}
	}
	if got := checkMembers(t, impl.Group{}); len(got) != 0 {
		t.Error("of nothing:", got)
	}
	if got := checkMembers(t, groupOf([]int{9, 2, 2}, 0, 9, -4)); !slices.Equal(got, []int{-4, 0, 2, 9}) {
		t.Error(got)
	}
}

func TestQuorumTable(t *testing.T) {
	for _, c := range []struct {
		now, next, have []int
		want            bool
	}{
		{[]int{1}, nil, nil, false},
		{[]int{1}, nil, []int{1}, true},
		{[]int{1}, nil, []int{2}, false},
		{[]int{1, 2}, nil, nil, false},
		{[]int{1, 2}, nil, []int{1}, false},
		{[]int{1, 2}, nil, []int{2}, false},
		{[]int{1, 2}, nil, []int{1, 2}, true},
		{[]int{1, 2, 3}, nil, []int{2}, false},
		{[]int{1, 2, 3}, nil, []int{1, 3}, true},
		{[]int{1, 2, 3}, nil, []int{1, 2, 3}, true},
		{[]int{1, 2, 3, 4}, nil, []int{1, 2}, false},
		{[]int{1, 2, 3, 4}, nil, []int{1, 2, 4}, true},
		{upTo(6), nil, []int{1, 2, 3}, false},
		{upTo(6), nil, []int{3, 4, 5, 6}, true},
		{upTo(7), nil, []int{5, 6, 7}, false},
		{upTo(7), nil, []int{4, 5, 6, 7}, true},
		{upTo(7), nil, upTo(7), true},
		// Joint: both sides are asked for.
		{[]int{1, 2, 3}, []int{3, 4}, nil, false},
		{[]int{1, 2, 3}, []int{3, 4}, []int{1, 2}, false},
		{[]int{1, 2, 3}, []int{3, 4}, []int{1, 3}, false},
		{[]int{1, 2, 3}, []int{3, 4}, []int{3, 4}, false},
		{[]int{1, 2, 3}, []int{3, 4}, []int{1, 2, 3}, false},
		{[]int{1, 2, 3}, []int{3, 4}, []int{1, 2, 4}, false},
		{[]int{1, 2, 3}, []int{3, 4}, []int{1, 3, 4}, true},
		{[]int{1, 2, 3}, []int{3, 4}, []int{1, 2, 3, 4}, true},
		{[]int{1}, []int{2}, []int{1}, false},
		{[]int{1}, []int{2}, []int{2}, false},
		{[]int{1}, []int{2}, []int{1, 2}, true},
		{[]int{1, 2}, []int{3, 4}, []int{1, 2, 3}, false},
		{[]int{1, 2}, []int{3, 4}, []int{2, 3, 4}, false},
		{[]int{1, 2}, []int{3, 4}, []int{1, 2, 3, 4}, true},
		// Four of all five are more than half of all, but not of Next's.
		{[]int{1, 2, 3, 4}, []int{4, 5}, []int{1, 2, 3, 4}, false},
		{[]int{1}, upTo(7), []int{1, 2, 3}, false},
		{[]int{1}, upTo(7), []int{2, 3, 4, 5, 6, 7}, false},
		{[]int{1}, upTo(7), []int{1, 2, 3, 4}, true},
		{upTo(7), []int{1}, []int{2, 3, 4, 5, 6, 7}, false},
		{upTo(7), []int{1}, []int{1, 2, 3, 4}, true},
		{[]int{1, 2, 3}, []int{1, 2, 3}, []int{1, 2}, true},
		{[]int{1, 2, 3}, []int{1, 2, 3}, []int{1}, false},
		// In any order, twice, and with Ids that are none of the group's.
		{[]int{1, 2, 3}, nil, []int{3, 1}, true},
		{[]int{1, 2, 3}, nil, []int{1, 1}, false},
		{[]int{1, 2, 3}, nil, []int{2, 2, 2, 2}, false},
		{[]int{1, 2, 3}, nil, []int{2, 2, 1, 1}, true},
		{[]int{1, 2, 3}, nil, []int{1, 4, 5, 6, 7}, false},
		{[]int{1, 2, 3}, nil, []int{4, 5, 6}, false},
		{[]int{1, 2, 3}, nil, []int{0, -1, 8, 9}, false},
		{[]int{1, 2, 3}, nil, []int{0, 3, -1, 8, 2}, true},
		{[]int{1, 2, 3}, nil, []int{1, 1<<32 + 2, 258, -2}, false},
		{[]int{1, 2, 3}, []int{3, 4}, []int{4, 3, 1}, true},
		{[]int{1, 2, 3}, []int{3, 4}, []int{3, 3, 4, 4, 3}, false},
		{[]int{1, 2, 3}, []int{3, 4}, []int{9, 4, 0, 3, 7, 1, 3}, true},
	} {
		if got := checkQuorum(t, impl.Group{Now: c.now, Next: c.next}, c.have); got != c.want {
			t.Errorf("Quorum of %v and %v with %v: %v", c.now, c.next, c.have, got)
		}
	}
}

// outside are the Ids, as bits, that the row does not have.
func outside(bits int) int {
	return (allRows - 1) &^ bits
}

// countIn is how many bits two numbers have together.
func countIn(a int, b int) int {
	return len(idsOf(a & b))
}

// quorumsOf are the rows, as bits, that the program takes for quorums.
func quorumsOf(now int, next int) []int {
	g, list := groupOfBits(now, next), []int{}
	for have := range allRows {
		if impl.Quorum(g, idsOf(have)) {
			list = append(list, have)
		}
	}
	return list
}

// allQuorums are those of each right group, by Now and Next as bits.
func allQuorums() map[[2]int][]int {
	all := map[[2]int][]int{}
	eachGroup(func(now int, next int, g impl.Group) {
		all[[2]int{now, next}] = quorumsOf(now, next)
	})
	return all
}

// Just half, one more than half, all and none of Now's and of Next's are met again and again, with every other count.
func TestQuorumOfEveryGroupAndRow(t *testing.T) {
	half := [allRows][allRows]bool{}
	for side := range allRows {
		for have := range allRows {
			half[side][have] = 2*countIn(side, have) > countIn(side, side)
		}
	}
	for sides, quorums := range allQuorums() {
		now, next, at := sides[0], sides[1], 0
		for have := range allRows {
			want := half[now][have] && (next == 0 || half[next][have])
			got := at < len(quorums) && quorums[at] == have
			if got {
				at++
			}
			if got != want {
				t.Fatalf("Quorum(%v, %v) = %v", groupOfBits(now, next), idsOf(have), got)
			}
		}
	}
}

// mixed has the Ids of have, each once or more often, and Ids that are none of the group's, in any order.
func mixed(chance *rand.Rand, members int, have int) []int {
	row := idsOf(have)
	for _, id := range idsOf(have) {
		row = append(row, slices.Repeat([]int{id}, chance.Intn(4))...)
	}
	foreign := append(idsOf(outside(members)), 0, -1, -7, 8, 9, 256+1, 1<<32+1, math.MinInt, math.MaxInt)
	for range chance.Intn(12) {
		row = append(row, foreign[chance.Intn(len(foreign))])
	}
	chance.Shuffle(len(row), func(i int, j int) { row[i], row[j] = row[j], row[i] })
	return row
}

func TestQuorumOfMixedRows(t *testing.T) {
	chance := rand.New(rand.NewSource(12))
	counts := map[bool]int{}
	for range 20000 {
		now, next := 1+chance.Intn(allRows-1), chance.Intn(allRows)
		if chance.Intn(3) == 0 {
			next = 0
		}
		have := chance.Intn(allRows) & (now | next)
		g := groupOfBits(now, next)
		row := mixed(chance, now|next, have)
		got := checkQuorum(t, g, row)
		if plain := checkQuorum(t, g, idsOf(have)); got != plain {
			t.Fatalf("Quorum(%v): %v with %v, %v with %v", g, got, row, plain, idsOf(have))
		}
		counts[got]++
	}
	if counts[true] < 2000 || counts[false] < 2000 {
		t.Error(counts)
	}
}

// Every row of up to four Ids, in every order and with every Id as often as may be.
func TestQuorumOfEveryShortRow(t *testing.T) {
	groups := []impl.Group{groupOf([]int{1}), groupOf([]int{1, 2}), groupOf([]int{1, 2, 3}), groupOf([]int{1, 2, 3}, 3, 4), groupOf([]int{3, 4}, 1, 2, 3), groupOf([]int{2}, 1, 2, 4)}
	eachShortRow([]int{0, 1, 2, 3, 4, 8}, 4, func(have []int) {
		for _, g := range groups {
			checkQuorum(t, g, have)
		}
	})
}

// One more that is there never unmakes a quorum.
func TestQuorumGrows(t *testing.T) {
	eachGroup(func(now int, next int, g impl.Group) {
		if now%5 != 0 && next%7 != 0 {
			return
		}
		for have := range allRows {
			if !impl.Quorum(g, idsOf(have)) {
				continue
			}
			for id := range mostNodes {
				if !impl.Quorum(g, idsOf(have|1<<id)) {
					t.Fatalf("%v: %v, but not with %d", g, idsOf(have), id+1)
				}
			}
		}
		if !impl.Quorum(g, idsOf(now|next)) || impl.Quorum(g, idsOf(outside(now))) || impl.Quorum(g, nil) {
			t.Fatal("all, none of Now's, or nobody:", g)
		}
	})
}

// The chapter names no other answer for wrong groups: of an empty Now nothing is more than half.
func TestQuorumOfWrongGroups(t *testing.T) {
	for name, g := range wrongGroups() {
		for _, have := range [][]int{nil, {1}, {0}, {8}, {1, 2}, {2, 1, 1}, {-1, 0, 1, 2, 3, 8}, upTo(7), upTo(300)} {
			if got := checkQuorum(t, g, have); got && len(g.Now) == 0 {
				t.Error(name, g, have)
			}
		}
	}
}

// pairsMeet tells the first two of a's and b's that have no member together.
func pairsMeet(a []int, b []int) (int, int, bool) {
	for _, one := range a {
		for _, other := range b {
			if one&other == 0 {
				return one, other, false
			}
		}
	}
	return 0, 0, true
}

// Promise 12, of all groups and all rows of Ids: two quorums of one group meet, and so do one of a joint group and one of either side.
func TestAnyTwoQuorumsMeet(t *testing.T) {
	all := allQuorums()
	for sides, quorums := range all {
		now, next := sides[0], sides[1]
		if len(quorums) == 0 {
			t.Fatal("no quorum at all:", groupOfBits(now, next))
		}
		others := map[string][]int{"its own": quorums, "Now's": all[[2]int{now, 0}]}
		if next != 0 {
			others["Next's"] = all[[2]int{next, 0}]
		}
		for name, list := range others {
			if one, other, meet := pairsMeet(quorums, list); !meet {
				t.Fatalf("of %v %v, and of %s %v", groupOfBits(now, next), idsOf(one), name, idsOf(other))
			}
		}
	}
}

// They meet in a member, also where rows have Ids that are none of the group's.
func TestQuorumsMeetInMembers(t *testing.T) {
	for sides, quorums := range allQuorums() {
		members := sides[0] | sides[1]
		inside := []int{}
		for _, have := range quorums {
			inside = append(inside, have&members)
		}
		slices.Sort(inside)
		inside = slices.Compact(inside)
		if one, other, meet := pairsMeet(inside, inside); !meet {
			t.Fatalf("of %v %v and %v", groupOfBits(sides[0], sides[1]), idsOf(one), idsOf(other))
		}
	}
}

// Behind each step of a change a quorum has a member together with each one ahead of that step; without the joint group there would be none.
func TestQuorumsMeetWhileAGroupChanges(t *testing.T) {
	all, apart := allQuorums(), 0
	for now := 1; now < allRows; now++ {
		for next := 1; next < allRows; next++ {
			if next == now {
				continue
			}
			old := groupOfBits(now, 0)
			joint, ok := impl.Joint(old, idsOf(next))
			settled, good := impl.Settled(joint)
			if !ok || !good || !sameGroup(joint, groupOfBits(now, next)) || !sameGroup(settled, groupOfBits(next, 0)) {
				t.Fatalf("from %v to %v by %v, %v", old, settled, joint, ok)
			}
			ahead, between, behind := all[[2]int{now, 0}], all[[2]int{now, next}], all[[2]int{next, 0}]
			_, _, first := pairsMeet(ahead, between)
			_, _, last := pairsMeet(between, behind)
			if _, _, meet := pairsMeet(ahead, behind); !meet {
				apart++
			}
			if !first || !last {
				t.Fatalf("from %v to %v", old, settled)
			}
		}
	}
	if apart < 1000 {
		t.Error("old and new groups meet nearly always:", apart)
	}
}

func TestJointTable(t *testing.T) {
	for _, c := range []struct {
		now, next, to []int
		ok            bool
	}{
		{[]int{1, 2, 3}, nil, []int{3, 4}, true},
		{[]int{1, 2, 3}, nil, []int{1}, true},
		{[]int{1, 2, 3}, nil, []int{1, 2}, true},
		{[]int{1, 2, 3}, nil, []int{1, 2, 3, 4}, true},
		{[]int{1, 2, 3}, nil, []int{4, 5, 6, 7}, true},
		{[]int{1, 2, 3}, nil, upTo(7), true},
		{[]int{1}, nil, []int{7}, true},
		{upTo(7), nil, []int{7}, true},
		{[]int{1, 2, 3}, []int{}, []int{2, 3, 4}, true},
		// next is none.
		{[]int{1, 2, 3}, nil, nil, false},
		{[]int{1, 2, 3}, nil, []int{}, false},
		{[]int{1, 2, 3}, nil, []int{4, 3}, false},
		{[]int{1, 2, 3}, nil, []int{3, 2, 1}, false},
		{[]int{1, 2, 3}, nil, []int{4, 4}, false},
		{[]int{1, 2, 3}, nil, []int{0}, false},
		{[]int{1, 2, 3}, nil, []int{0, 1}, false},
		{[]int{1, 2, 3}, nil, []int{8}, false},
		{[]int{1, 2, 3}, nil, []int{1, 8}, false},
		{[]int{1, 2, 3}, nil, []int{-1, 1}, false},
		{[]int{1, 2, 3}, nil, upTo(8), false},
		// next is Now.
		{[]int{1, 2, 3}, nil, []int{1, 2, 3}, false},
		{[]int{7}, nil, []int{7}, false},
		{upTo(7), nil, upTo(7), false},
		// It is joint already.
		{[]int{1, 2, 3}, []int{3, 4}, []int{1}, false},
		{[]int{1, 2, 3}, []int{3, 4}, []int{3, 4}, false},
		{[]int{1, 2, 3}, []int{3, 4}, []int{1, 2, 3}, false},
		{[]int{1, 2, 3}, []int{3, 4}, nil, false},
		{[]int{1}, []int{1}, []int{2}, false},
		// It is no group.
		{nil, nil, []int{1}, false},
		{nil, []int{1}, []int{2}, false},
		{[]int{0}, nil, []int{1}, false},
		{[]int{8}, nil, []int{1}, false},
		{[]int{2, 1}, nil, []int{1}, false},
		{[]int{1, 1}, nil, []int{1}, false},
		{[]int{1}, []int{0}, []int{2}, false},
	} {
		g := impl.Group{Now: c.now, Next: c.next}
		got, ok := checkJoint(t, g, c.to)
		want := g
		if c.ok {
			want = impl.Group{Now: c.now, Next: c.to}
		}
		if ok != c.ok || !sameGroup(got, want) {
			t.Errorf("Joint(%v, %v) = %v, %v", g, c.to, got, ok)
		}
	}
}

func TestJointOfEveryGroupAndRow(t *testing.T) {
	for now := 1; now < allRows; now++ {
		for next := range allRows {
			got, ok := checkJoint(t, groupOfBits(now, 0), idsOf(next))
			if ok != (next != 0 && next != now) || ok && !impl.GroupOk(got) {
				t.Fatalf("Joint(%v, %v) = %v, %v", idsOf(now), idsOf(next), got, ok)
			}
		}
	}
}

func TestJointOfJointGroups(t *testing.T) {
	eachGroup(func(now int, next int, g impl.Group) {
		if next == 0 {
			return
		}
		for _, to := range []int{0, 1, now, next, now | next, now ^ next, allRows - 1} {
			if got, ok := impl.Joint(g, idsOf(to)); ok || !sameGroup(got, g) {
				t.Fatalf("Joint(%v, %v) = %v, %v", g, idsOf(to), got, ok)
			}
		}
	})
	for _, to := range wrongRows() {
		if got, ok := checkJoint(t, groupOf([]int{1, 2}, 3), to); ok || !sameGroup(got, groupOf([]int{1, 2}, 3)) {
			t.Errorf("to %v: %v, %v", to, got, ok)
		}
	}
}

func TestJointOfWrongGroupsAndRows(t *testing.T) {
	for name, g := range wrongGroups() {
		for _, to := range [][]int{nil, {1}, {1, 2, 3}, {4, 5}, upTo(7), {0}, {2, 1}, g.Now, g.Next} {
			if got, ok := checkJoint(t, g, to); ok || !sameGroup(got, g) {
				t.Errorf("%s, to %v: %v, %v", name, to, got, ok)
			}
		}
	}
	for name, to := range wrongRows() {
		for bits := 1; bits < allRows; bits++ {
			g := groupOfBits(bits, 0)
			if got, ok := checkJoint(t, g, to); ok || !sameGroup(got, g) {
				t.Errorf("from %v, to %s: %v, %v", g, name, got, ok)
			}
		}
	}
}

// Each short row, right or not, as what comes behind a few groups.
func TestJointToEveryShortRow(t *testing.T) {
	groups := []impl.Group{groupOf([]int{1}), groupOf([]int{1, 7}), groupOf(upTo(7)), groupOf([]int{1}, 2), groupOf([]int{2, 1}), {}}
	eachShortRow([]int{-1, 0, 1, 2, 6, 7, 8}, 3, func(to []int) {
		for _, g := range groups {
			checkJoint(t, g, to)
		}
	})
}

func TestSettledTable(t *testing.T) {
	for _, c := range []struct {
		now, next []int
		ok        bool
	}{
		{[]int{1, 2, 3}, []int{3, 4}, true},
		{[]int{1}, []int{7}, true},
		{[]int{7}, []int{1}, true},
		{[]int{1}, upTo(7), true},
		{upTo(7), []int{4}, true},
		{[]int{1, 2}, []int{1, 2}, true},
		{[]int{1, 2, 3}, nil, false},
		{[]int{1, 2, 3}, []int{}, false},
		{upTo(7), nil, false},
		// It is no group.
		{nil, nil, false},
		{nil, []int{1, 2}, false},
		{[]int{0}, []int{1}, false},
		{[]int{8}, []int{1}, false},
		{[]int{2, 1}, []int{1}, false},
		{[]int{1, 1}, []int{1}, false},
		{[]int{1}, []int{0}, false},
		{[]int{1}, []int{8}, false},
		{[]int{1}, []int{-1, 1}, false},
		{[]int{1}, []int{2, 1}, false},
		{[]int{1}, []int{2, 2}, false},
	} {
		g := impl.Group{Now: c.now, Next: c.next}
		want := g
		if c.ok {
			want = impl.Group{Now: c.next}
		}
		if got, ok := checkSettled(t, g); ok != c.ok || !sameGroup(got, want) {
			t.Errorf("Settled(%v) = %v, %v", g, got, ok)
		}
	}
}

func TestSettledOfEveryGroup(t *testing.T) {
	eachGroup(func(now int, next int, g impl.Group) {
		got, ok := checkSettled(t, g)
		if ok != (next != 0) || !impl.GroupOk(got) || len(got.Next) != 0 {
			t.Fatalf("Settled(%v) = %v, %v", g, got, ok)
		}
		if again, twice := impl.Settled(got); twice || !sameGroup(again, got) {
			t.Fatalf("Settled(%v) = %v, %v", got, again, twice)
		}
	})
	for name, g := range wrongGroups() {
		if got, ok := checkSettled(t, g); ok || !sameGroup(got, g) {
			t.Error(name, got, ok)
		}
	}
}

func TestPutGroupTable(t *testing.T) {
	for _, c := range []struct {
		now, next []int
		want      string
	}{
		{[]int{1}, nil, "\x01\x00"},
		{[]int{2}, nil, "\x02\x00"},
		{[]int{3}, nil, "\x04\x00"},
		{[]int{4}, nil, "\x08\x00"},
		{[]int{5}, nil, "\x10\x00"},
		{[]int{6}, nil, "\x20\x00"},
		{[]int{7}, nil, "\x40\x00"},
		{upTo(7), nil, "\x7f\x00"},
		{upTo(7), []int{}, "\x7f\x00"},
		{[]int{1}, []int{7}, "\x01\x40"},
		{[]int{7}, []int{1}, "\x40\x01"},
		{[]int{1, 2, 3}, []int{3, 4}, "\x07\x0c"},
		{[]int{2, 5}, []int{2, 5}, "\x12\x12"},
		{upTo(7), upTo(7), "\x7f\x7f"},
		{nil, nil, ""},
		{nil, []int{1}, ""},
		{[]int{0}, nil, ""},
		{[]int{8}, nil, ""},
		{[]int{-1}, nil, ""},
		{[]int{1, 1}, nil, ""},
		{[]int{2, 1}, nil, ""},
		{upTo(8), nil, ""},
		{[]int{1}, []int{0}, ""},
		{[]int{1}, []int{8}, ""},
		{[]int{1}, []int{-1}, ""},
		{[]int{1}, []int{1, 1}, ""},
		{[]int{1}, []int{2, 1}, ""},
	} {
		if got := checkPutGroup(t, impl.Group{Now: c.now, Next: c.next}); string(got) != c.want {
			t.Errorf("PutGroup of %v and %v: %q", c.now, c.next, got)
		}
	}
}

func TestPutGroupOfRightAndWrong(t *testing.T) {
	eachGroup(func(now int, next int, g impl.Group) {
		if got := checkPutGroup(t, g); !bytes.Equal(got, []byte{byte(now), byte(next)}) {
			t.Fatalf("PutGroup(%v) = %v", g, got)
		}
	})
	for name, g := range wrongGroups() {
		if got := checkPutGroup(t, g); len(got) != 0 {
			t.Error(name, got)
		}
	}
}

func TestGetGroupOfEveryPair(t *testing.T) {
	count := 0
	for now := range 256 {
		for next := range 256 {
			b := []byte{byte(now), byte(next)}
			want, right := impl.Group{}, now != 0 && now < allRows && next < allRows
			if right {
				want = groupOfBits(now, next)
				count++
			}
			got, ok := checkGetGroup(t, b)
			if ok != right || !sameGroup(got, want) {
				t.Fatalf("GetGroup(%v) = %v, %v", b, got, ok)
			}
			if ok && (!impl.GroupOk(got) || !bytes.Equal(impl.PutGroup(got), b)) {
				t.Fatalf("%v do not come back of %v", b, got)
			}
		}
	}
	if count != (allRows-1)*allRows {
		t.Error(count)
	}
}

func TestGroupsComeBack(t *testing.T) {
	eachGroup(func(now int, next int, g impl.Group) {
		if got, ok := impl.GetGroup(impl.PutGroup(g)); !ok || !sameGroup(got, g) {
			t.Fatalf("of %v came %v, %v", g, got, ok)
		}
	})
	for name, g := range wrongGroups() {
		if got, ok := impl.GetGroup(impl.PutGroup(g)); ok || !sameGroup(got, impl.Group{}) {
			t.Error(name, got, ok)
		}
	}
}

func refusedGroup(t *testing.T, b []byte) {
	t.Helper()
	if got, ok := checkGetGroup(t, b); ok || !sameGroup(got, impl.Group{}) {
		t.Errorf("GetGroup(%v) = %v, %v", b, got, ok)
	}
}

// Of other lengths none is a group, also where the first or the last two bytes would be one, or those in the spare room make it two.
func TestGetGroupOfOtherLengths(t *testing.T) {
	refusedGroup(t, nil)
	refusedGroup(t, []byte{})
	for one := range 256 {
		refusedGroup(t, []byte{byte(one)})
		for _, other := range []byte{0, 1, 3, 127, 128, 255} {
			refusedGroup(t, []byte{byte(one), other, 0})
			refusedGroup(t, []byte{0, byte(one), other})
			refusedGroup(t, []byte{other, 1, byte(one)})
		}
	}
	for length := range 300 {
		if length != 2 {
			refusedGroup(t, make([]byte, length))
			refusedGroup(t, bytes.Repeat([]byte{1}, length))
		}
	}
}

// What was answered stays, whatever happens to what was handed in, and to another answer.
func TestGroupsStayApart(t *testing.T) {
	first := func(g impl.Group, ok bool) impl.Group { return g }
	for name, call := range map[string]func(impl.Group) impl.Group{
		"joint":                  func(g impl.Group) impl.Group { return first(impl.Joint(impl.Group{Now: g.Now}, g.Next)) },
		"joint, a part of Now":   func(g impl.Group) impl.Group { return first(impl.Joint(impl.Group{Now: g.Now}, g.Now[:2])) },
		"joint, the last of Now": func(g impl.Group) impl.Group { return first(impl.Joint(impl.Group{Now: g.Now}, g.Now[1:])) },
		"joint to Now":           func(g impl.Group) impl.Group { return first(impl.Joint(impl.Group{Now: g.Now}, g.Now)) },
		"joint to none":          func(g impl.Group) impl.Group { return first(impl.Joint(impl.Group{Now: g.Now}, nil)) },
		"joint to wrong":         func(g impl.Group) impl.Group { return first(impl.Joint(impl.Group{Now: g.Now}, []int{0})) },
		"joint already":          func(g impl.Group) impl.Group { return first(impl.Joint(g, []int{1})) },
		"joint of wrong":         func(g impl.Group) impl.Group { return first(impl.Joint(impl.Group{Next: g.Next}, g.Now)) },
		"settled":                func(g impl.Group) impl.Group { return first(impl.Settled(g)) },
		"settled, one memory":    func(g impl.Group) impl.Group { return first(impl.Settled(impl.Group{Now: g.Now, Next: g.Now})) },
		"settled, not joint":     func(g impl.Group) impl.Group { return first(impl.Settled(impl.Group{Now: g.Now})) },
		"settled of wrong":       func(g impl.Group) impl.Group { return first(impl.Settled(impl.Group{Next: g.Next})) },
		"settled of wrong, both": func(g impl.Group) impl.Group { return first(impl.Settled(impl.Group{Now: []int{0}, Next: g.Now})) },
		"members":                func(g impl.Group) impl.Group { return impl.Group{Now: impl.Members(g), Next: impl.Members(g)} },
		"members of one side":    func(g impl.Group) impl.Group { return impl.Group{Now: impl.Members(impl.Group{Now: g.Now})} },
		"members of the other":   func(g impl.Group) impl.Group { return impl.Group{Now: impl.Members(impl.Group{Next: g.Next})} },
		"back of its bytes":      func(g impl.Group) impl.Group { return first(impl.GetGroup(impl.PutGroup(g))) },
		"back, both rows alike":  func(g impl.Group) impl.Group { return first(impl.GetGroup([]byte{7, 7})) },
		"back of one side":       func(g impl.Group) impl.Group { return first(impl.GetGroup([]byte{127, 0})) },
		"joint and settled again": func(g impl.Group) impl.Group {
			return first(impl.Settled(first(impl.Joint(impl.Group{Now: g.Now}, g.Next))))
		},
	} {
		given := groupOf([]int{1, 2, 3}, 3, 4)
		askedGroup(t, given, call)
		one, two := call(given), call(given)
		kept := cloneGroup(one)
		scribbleRow(two.Now)
		scribbleRow(two.Next)
		if !sameGroup(one, kept) || !sameGroup(given, groupOf([]int{1, 2, 3}, 3, 4)) {
			t.Error("two answers share memory, or share it with what was handed in:", name)
		}
	}
}

// Now, Next and next may be parts of one row.
func TestGroupsOfOneRow(t *testing.T) {
	for cut := 1; cut <= mostNodes; cut++ {
		row := upTo(mostNodes)
		stays := func(what string) {
			t.Helper()
			if !slices.Equal(row, upTo(mostNodes)) {
				t.Fatalf("%s, cut at %d: %v", what, cut, row)
			}
		}
		joint, ok := impl.Joint(impl.Group{Now: row[:cut]}, row[cut:])
		if ok != (cut < mostNodes) || !slices.Equal(joint.Now, row[:cut]) || !slices.Equal(joint.Next, row[cut:]) {
			t.Errorf("cut at %d: %v, %v", cut, joint, ok)
		}
		stays("Joint")
		if members := impl.Members(impl.Group{Now: row[:cut], Next: row[cut-1:]}); !slices.Equal(members, row) {
			t.Errorf("cut at %d: %v", cut, members)
		}
		stays("Members")
		settled, ok := impl.Settled(impl.Group{Now: row[:cut], Next: row[:cut]})
		scribbleRow(settled.Now)
		if !ok {
			t.Error("not settled:", cut)
		}
		stays("Settled")
		if !impl.Quorum(impl.Group{Now: row[:cut], Next: row}, row) {
			t.Error("no quorum:", cut)
		}
		stays("Quorum")
	}
}

// A groupWalker knows the group as bits of its own.
type groupWalker struct {
	chance    *rand.Rand
	group     impl.Group
	now, next int
	seen      map[string]int
}

func (w *groupWalker) change(t *testing.T) string {
	t.Helper()
	to := pickedOf(w.chance, w.now, w.next, 0, w.chance.Intn(allRows), w.chance.Intn(allRows))
	row, right := idsOf(to), to != 0 && to != w.now
	if w.chance.Intn(4) == 0 {
		row, right = append(row, pickedOf(w.chance, -1, 0, 8)), false
	}
	group, ok := checkJoint(t, w.group, row)
	if ok != (right && w.next == 0) {
		t.Fatalf("Joint(%v, %v): %v", w.group, row, ok)
	}
	w.group = group
	if ok {
		w.next = to
	}
	return fmt.Sprint("joint ", ok)
}

func (w *groupWalker) settle(t *testing.T) string {
	t.Helper()
	group, ok := checkSettled(t, w.group)
	if ok != (w.next != 0) {
		t.Fatalf("Settled(%v): %v", w.group, ok)
	}
	w.group = group
	if ok {
		w.now, w.next = w.next, 0
	}
	return fmt.Sprint("settled ", ok)
}

func (w *groupWalker) step(t *testing.T) {
	t.Helper()
	ahead := quorumsOf(w.now, w.next)
	what := ""
	if w.chance.Intn(2) == 0 {
		what = w.change(t)
	} else {
		what = w.settle(t)
	}
	w.seen[what]++
	if !sameGroup(w.group, groupOfBits(w.now, w.next)) || !checkGroup(t, w.group) {
		t.Fatalf("%s: %v, not %v", what, w.group, groupOfBits(w.now, w.next))
	}
	if one, other, meet := pairsMeet(ahead, quorumsOf(w.now, w.next)); !meet {
		t.Fatalf("%s: ahead of it %v, behind it %v", what, idsOf(one), idsOf(other))
	}
	back, ok := impl.GetGroup(checkPutGroup(t, w.group))
	if !ok || !sameGroup(back, w.group) || !slices.Equal(checkMembers(t, back), idsOf(w.now|w.next)) {
		t.Fatalf("%s: %v does not come back: %v, %v", what, w.group, back, ok)
	}
}

func TestGroupsMovedByAnyCalls(t *testing.T) {
	seen := map[string]int{}
	for seed := range 20 {
		w := &groupWalker{chance: rand.New(rand.NewSource(int64(seed))), group: groupOf([]int{1, 2, 3}), now: 7, seen: seen}
		for range 100 {
			w.step(t)
		}
	}
	for _, s := range []string{"joint true", "joint false", "settled true", "settled false"} {
		if seen[s] < 100 {
			t.Errorf("hardly ever seen: %s: %d", s, seen[s])
		}
	}
	if len(seen) != 4 {
		t.Error("answers that are none of a call's:", seen)
	}
}
