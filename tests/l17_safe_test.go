package tests

import (
	"fmt"
	"math"
	"math/rand"
	"slices"
	"testing"

	"loop.example/g00113/impl"
)

// What is safe is all that is asked of one cluster.
type safety struct {
	oneLeader bool
	logs      bool
	states    bool
	files     bool
	ahead     bool
	safe      int
}

func safetyOf(c impl.Cluster) safety {
	return safety{impl.OneLeader(c), impl.LogsMatch(c), impl.StatesMatch(c), impl.FilesMatch(c), impl.Ahead(c), impl.Safe(c)}
}

// eachTwo asks of each replica and each other one, both ways.
func eachTwo(c impl.Cluster, holds func(a impl.Replica, b impl.Replica) bool) bool {
	for i, a := range c.R {
		for j, b := range c.R {
			if i != j && !holds(a, b) {
				return false
			}
		}
	}
	return true
}

func oneLeaderWanted(c impl.Cluster) bool {
	for _, a := range c.Led {
		for _, b := range c.Led {
			if a[0] == b[0] && a[1] != b[1] {
				return false
			}
		}
	}
	return true
}

// sameUpTo tells whether the entries are the same at each index up to this one that stands in both.
func sameUpTo(a map[int]impl.Entry, b map[int]impl.Entry, index int) bool {
	for at, e := range a {
		other, inBoth := b[at]
		if inBoth && at <= index && !sameEntry(e, other) {
			return false
		}
	}
	return true
}

func entriesByIndex(k impl.Keep) map[int]impl.Entry {
	list := map[int]impl.Entry{}
	for i, e := range k.Log {
		list[k.Base+1+i] = e
	}
	return list
}

// logsWanted goes by indexes, as the chapter's words do.
func logsWanted(a impl.Keep, b impl.Keep) bool {
	ours, theirs := entriesByIndex(a), entriesByIndex(b)
	for index, e := range ours {
		other, inBoth := theirs[index]
		if inBoth && e.Term == other.Term && !sameUpTo(ours, theirs, index) {
			return false
		}
	}
	return true
}

func logsMatchWanted(c impl.Cluster) bool {
	return eachTwo(c, func(a impl.Replica, b impl.Replica) bool { return logsWanted(a.N.K, b.N.K) })
}

func statesMatchWanted(c impl.Cluster) bool {
	return eachTwo(c, func(a impl.Replica, b impl.Replica) bool {
		return !a.Up || !b.Up || a.Applied != b.Applied || isSameState(a.S, b.S)
	})
}

func filesMatchWanted(c impl.Cluster) bool {
	first := impl.Keep{}
	if groupRight(c.Group) {
		first.Group = c.Group
	}
	for _, r := range c.R {
		k, end := redoWanted(first, r.F.Bytes)
		if r.Up && (end != len(r.F.Bytes) || !sameKeep(k, r.N.K)) {
			return false
		}
	}
	return true
}

func aheadWanted(c impl.Cluster) bool {
	for _, r := range c.R {
		if r.Up && r.Applied != r.N.Commit || r.N.Commit > len(c.Done) {
			return false
		}
	}
	return true
}

func safetyWanted(c impl.Cluster) safety {
	s := safety{oneLeaderWanted(c), logsMatchWanted(c), statesMatchWanted(c), filesMatchWanted(c), aheadWanted(c), 0}
	s.safe = 1 + slices.Index([]bool{!c.Split, s.oneLeader, s.logs, s.states, s.files, s.ahead}, false)
	return s
}

// checkSafe asks all of it, with spare room behind each list.
func checkSafe(t *testing.T, c impl.Cluster) safety {
	t.Helper()
	want := safetyWanted(c)
	askedCluster(t, c, func(x impl.Cluster) impl.Cluster {
		if got := safetyOf(x); got != want {
			t.Fatalf("%+v, not %+v", got, want)
		}
		return impl.Cluster{}
	})
	return want
}

// checkSafeQuick asks the same without a look at the memory.
func checkSafeQuick(t *testing.T, c impl.Cluster) safety {
	t.Helper()
	want := safetyWanted(c)
	if got := safetyOf(c); got != want {
		t.Fatalf("%+v, not %+v", got, want)
	}
	return want
}

func TestOneLeaderTable(t *testing.T) {
	for _, x := range []struct {
		led  [][2]int
		want bool
	}{
		{nil, true},
		{[][2]int{}, true},
		{[][2]int{{1, 1}}, true},
		{[][2]int{{0, 0}}, true},
		{[][2]int{{1, 1}, {1, 1}}, true},
		{[][2]int{{1, 1}, {1, 2}}, false},
		{[][2]int{{1, 2}, {1, 1}}, false},
		{[][2]int{{1, 1}, {2, 1}}, true},
		{[][2]int{{1, 1}, {2, 2}}, true},
		{[][2]int{{2, 1}, {1, 1}}, true},
		{[][2]int{{1, 2}, {2, 1}}, true},
		{[][2]int{{1, 1}, {2, 2}, {1, 1}}, true},
		{[][2]int{{1, 1}, {2, 2}, {1, 2}}, false},
		{[][2]int{{1, 1}, {2, 2}, {2, 1}}, false},
		{[][2]int{{1, 1}, {2, 2}, {3, 3}, {4, 1}, {5, 2}}, true},
		{[][2]int{{1, 1}, {2, 2}, {3, 3}, {4, 1}, {1, 3}}, false},
		{[][2]int{{1, 1}, {1, 1}, {1, 1}, {1, 2}}, false},
		{[][2]int{{1, 1}, {1, 2}, {1, 1}, {1, 1}}, false},
		{[][2]int{{0, 1}, {0, 2}}, false},
		{[][2]int{{0, 0}, {0, 1}}, false},
		{[][2]int{{0, 1}, {0, 0}}, false},
		{[][2]int{{0, 0}, {0, 0}}, true},
		{[][2]int{{-1, 1}, {-1, 2}}, false},
		{[][2]int{{-1, 1}, {1, 2}}, true},
		{[][2]int{{3, -1}, {3, 1}}, false},
		{[][2]int{{1 << 32, 1}, {0, 2}}, true},
		{[][2]int{{5, 1 << 32}, {5, 0}}, false},
		{[][2]int{{math.MaxInt, 1}, {math.MinInt, 2}}, true},
		{[][2]int{{math.MaxInt, 1}, {math.MinInt, 2}, {math.MaxInt, 3}}, false},
		{[][2]int{{math.MinInt, 7}, {math.MaxInt, 7}, {math.MinInt, 6}}, false},
	} {
		for _, c := range []impl.Cluster{{Led: x.led}, withCluster(newCluster(t, 3), func(c *impl.Cluster) { c.Led = x.led })} {
			got := checkSafe(t, c)
			if got.oneLeader != x.want || got.safe != map[bool]int{false: 2}[x.want] {
				t.Errorf("%v: %+v", x.led, got)
			}
		}
	}
}

// Two of many, next to each other and far apart; also of more than a right cluster has.
func TestOneLeaderOfMany(t *testing.T) {
	for _, count := range []int{mostHistory, 3 * mostHistory} {
		led := [][2]int{}
		for i := range count {
			led = append(led, [2]int{1 + i, 1 + i%mostNodes})
		}
		if c := (impl.Cluster{Led: led}); !impl.OneLeader(c) || impl.Safe(c) != 0 {
			t.Error(count)
		}
		for _, two := range [][2]int{{0, 1}, {0, count - 1}, {count - 2, count - 1}, {7, 20}, {count / 2, count/2 + 1}, {3, count / 2}} {
			other := slices.Clone(led)
			other[two[1]][0] = other[two[0]][0]
			same := other[two[1]][1] == other[two[0]][1]
			if c := (impl.Cluster{Led: other}); impl.OneLeader(c) != same || impl.Safe(c) != map[bool]int{false: 2}[same] {
				t.Error(count, two)
			}
			other[two[1]][1] = other[two[0]][1]
			if c := (impl.Cluster{Led: other}); !impl.OneLeader(c) {
				t.Error(count, two, "with one Id")
			}
		}
	}
}

// Each row of up to four of two terms and two Ids.
func TestOneLeaderOfEachShortRow(t *testing.T) {
	counts := map[bool]int{}
	eachShortRow([]int{0, 1, 2, 3}, 4, func(row []int) {
		c := impl.Cluster{}
		for _, i := range row {
			c.Led = append(c.Led, [2]int{1 + i/2, 1 + i%2})
		}
		counts[checkSafeQuick(t, c).oneLeader]++
	})
	if counts[true] < 50 || counts[false] < 50 {
		t.Error(counts)
	}
}

// keeping has a replica for each of these, all of them down, so nothing is asked of their files and states.
func keeping(list ...impl.Keep) impl.Cluster {
	c := impl.Cluster{Group: groupOf(upTo(3))}
	for i, k := range list {
		c.R = append(c.R, impl.Replica{N: serverOf(i+1, k), S: impl.StateNew()})
		c.R[i].N.Commit = 0
	}
	return c
}

func TestLogsMatchTable(t *testing.T) {
	log := func(base int, entries ...impl.Entry) impl.Keep { return kept(9, 0, base, min(base, 1), "", entries...) }
	x, y := asked(1, "x"), asked(1, "y")
	for name, c := range map[string]struct {
		a    impl.Keep
		b    impl.Keep
		want bool
	}{
		"no entries":                    {log(0), log(0), true},
		"one is empty":                  {log(0), log(0, noop(1)), true},
		"alike":                         {log(0, noop(1), x, noop(2)), log(0, noop(1), x, noop(2)), true},
		"one goes on":                   {log(0, noop(1), x), log(0, noop(1), x, noop(2)), true},
		"another kind":                  {log(0, noop(1)), log(0, asked(1, "")), false},
		"a group and a command":         {log(0, regroup(1, 3, 0)), log(0, asked(1, "\x03\x00")), false},
		"another group":                 {log(0, regroup(1, 3, 0)), log(0, regroup(1, 7, 0)), false},
		"another group to come":         {log(0, regroup(1, 3, 4)), log(0, regroup(1, 3, 0)), false},
		"the same group":                {log(0, regroup(1, 3, 4)), log(0, regroup(1, 3, 4)), true},
		"another byte":                  {log(0, x), log(0, y), false},
		"a byte more":                   {log(0, x), log(0, asked(1, "xx")), false},
		"a nought more":                 {log(0, x), log(0, asked(1, "x\x00")), false},
		"no bytes":                      {log(0, x), log(0, asked(1, "")), false},
		"another byte at the last":      {log(0, noop(1), noop(1), x), log(0, noop(1), noop(1), y), false},
		"another byte ahead":            {log(0, x, noop(1), noop(1)), log(0, y, noop(1), noop(1)), false},
		"other terms":                   {log(0, asked(1, "x")), log(0, asked(2, "y")), true},
		"other terms at last":           {log(0, noop(1), noop(1)), log(0, noop(1), noop(2)), true},
		"other terms on":                {log(0, noop(1), noop(1), noop(1)), log(0, noop(1), noop(2), noop(3)), true},
		"other terms, the same bytes":   {log(0, asked(1, "x")), log(0, asked(2, "x")), true},
		"one term behind other terms":   {log(0, noop(1), noop(3)), log(0, noop(2), noop(3)), false},
		"one term behind other bytes":   {log(0, x, noop(3)), log(0, y, noop(3)), false},
		"one term far behind":           {log(0, noop(1), noop(1), noop(1), noop(4)), log(0, noop(2), noop(2), noop(3), noop(4)), false},
		"one term behind a gap":         {log(0, noop(1), noop(1), noop(4)), log(0, noop(1), noop(3), noop(4)), false},
		"otherwise behind one term":     {log(0, noop(1), noop(4), noop(4)), log(0, noop(1), noop(4), noop(5)), true},
		"other bytes, and terms behind": {log(0, x, noop(2)), log(0, y, noop(3)), false},
		"other terms, a longer one":     {log(0, noop(1), noop(1)), log(0, noop(2), noop(2), noop(2), noop(2)), true},
		"one behind a snapshot":         {log(1, x), log(0, noop(1), x), true},
		"one behind it, otherwise":      {log(1, x), log(0, noop(1), y), false},
		"what stands in one alone":      {log(1, x), log(0, asked(1, "other"), x), true},
		"what would be ahead is there":  {log(1, noop(2), noop(3)), log(0, noop(1), noop(1), noop(3)), false},
		"one ends where one begins":     {log(2, x), log(0, noop(1), noop(1)), true},
		"one ends ahead of the other":   {log(7, x), log(0, noop(1), noop(1)), true},
		"one index together":            {log(2, x), log(0, noop(1), noop(1), x), true},
		"one index, otherwise":          {log(2, x), log(0, noop(1), noop(1), y), false},
		"one index, another term":       {log(2, x), log(0, noop(1), noop(1), asked(2, "y")), true},
		"two snapshots, one place":      {log(3, x), log(3, x), true},
		"two snapshots, otherwise":      {log(3, x), log(3, y), false},
		"places alike, not indexes":     {log(3, x, noop(2)), log(4, y, noop(2)), true},
		"an empty one far behind":       {log(500), log(0, noop(1)), true},
		"an empty one in the midst":     {log(1), log(0, x, y), true},
		"an empty one at the other":     {log(4), log(4, x), true},
		"terms of the snapshots":        {kept(9, 0, 5, 2, "", noop(3)), kept(9, 0, 5, 1, "", noop(3)), true},
		"other snapshots":               {kept(9, 0, 5, 2, "one", noop(3)), kept(9, 0, 5, 2, "two", noop(3)), true},
		"other terms and votes":         {kept(9, 1, 0, 0, "", noop(3)), kept(8, 2, 0, 0, "", noop(3)), true},
	} {
		for _, both := range [][]impl.Keep{{c.a, c.b}, {c.b, c.a}} {
			got := checkSafe(t, keeping(both...))
			if got.logs != c.want || got.safe != map[bool]int{false: 3}[c.want] {
				t.Errorf("%s: %+v", name, got)
			}
			for up := range 4 {
				same := keeping(both...)
				same.R[0].Up, same.R[1].Up = up%2 > 0, up/2 > 0
				if checkSafe(t, same).logs != c.want {
					t.Errorf("%s, up %d", name, up)
				}
			}
		}
	}
}

// Any two logs of up to three entries, the one behind each snapshot that may be.
func TestLogsMatchOfEachTwoShortLogs(t *testing.T) {
	counts := map[bool]int{}
	eachLog(3, func(log []impl.Entry) {
		eachLog(3, func(other []impl.Entry) {
			for base := range 5 {
				a, b := kept(3, 0, 0, 0, "", log...), kept(3, 0, base, min(base, 1), "", other...)
				want := logsWanted(a, b)
				if one, two := impl.LogsMatch(keeping(a, b)), impl.LogsMatch(keeping(b, a)); one != want || two != want {
					t.Fatalf("%s and %s: %v and %v", keepText(a), keepText(b), one, two)
				}
				counts[want]++
			}
		})
	})
	if counts[true] < 5000 || counts[false] < 1000 {
		t.Error(counts)
	}
}

// Of more than two, all alike or empty but for two of them, which may be any.
func TestLogsMatchOfMany(t *testing.T) {
	for count := range mostNodes + 3 {
		list := slices.Repeat([]impl.Keep{kept(9, 0, 0, 0, "", noop(1), noop(2))}, count)
		if got := checkSafe(t, keeping(list...)); !got.logs || got.safe != 0 {
			t.Error(count, got)
		}
		for j := range count {
			for i := range j {
				for _, others := range [][]impl.Entry{nil, {noop(1)}, {noop(1), noop(1)}} {
					list := slices.Repeat([]impl.Keep{kept(9, 0, 0, 0, "", others...)}, count)
					list[i], list[j] = kept(9, 0, 0, 0, "", noop(1), noop(7), asked(8, "x")), kept(9, 0, 0, 0, "", noop(1), noop(7), asked(8, "y"))
					if got := checkSafeQuick(t, keeping(list...)); got.logs || got.safe != 3 {
						t.Error(count, i, j, got)
					}
					list[j].Log = list[i].Log
					if got := checkSafeQuick(t, keeping(list...)); !got.logs {
						t.Error(count, i, j, "are the same")
					}
				}
			}
		}
	}
	list := slices.Repeat([]impl.Keep{kept(9, 0, 0, 0, "", risingLog(1, 9, mostLog)...)}, mostNodes)
	for place := range mostLog {
		other := cloneKeep(list[0])
		other.Log[place].Data = append(other.Log[place].Data, 'x')
		list[mostNodes-1] = other
		if impl.LogsMatch(keeping(list...)) {
			t.Error(place)
		}
	}
	list[mostNodes-1] = list[0]
	if got := checkSafe(t, keeping(list...)); !got.logs {
		t.Error(got)
	}
}

// What is kept may be wrong, and as far apart as any numbers are: then no index stands in both.
func TestLogsMatchOfFarIndexes(t *testing.T) {
	bases := []int{math.MinInt, math.MinInt + 1, math.MinInt + 2, -3, -2, -1, 0, 1, 2, lastAt, 1 << 32, math.MaxInt - 9, math.MaxInt - 8, math.MaxInt - 7}
	x, y := []impl.Entry{noop(1), asked(3, "x"), noop(5)}, []impl.Entry{noop(1), asked(3, "y"), noop(5)}
	for _, a := range bases {
		for _, b := range bases {
			apart := uint(max(a, b)) - uint(min(a, b))
			got := checkSafe(t, keeping(kept(9, 0, a, 1, "", x...), kept(9, 0, b, 1, "", y...)))
			if got.logs != (apart > 0) {
				t.Error(a, b, got)
			}
			got = checkSafe(t, keeping(kept(9, 0, a, 1, "", noops(1, 3)...), kept(9, 0, b, 1, "", asked(1, "x"))))
			if met := a <= b && apart < 3; got.logs == met {
				t.Error(a, b, got)
			}
		}
	}
	far := keeping(kept(9, 0, math.MaxInt-1, 1, "", noops(1, 1)...), kept(9, 0, math.MinInt, 1, "", asked(1, "x")), kept(9, 0, 0, 0, "", asked(1, "y")))
	if !impl.LogsMatch(far) || impl.Safe(far) != 0 {
		t.Error("far apart")
	}
	odd := keeping(kept(9, 0, 0, 0, "", impl.Entry{Term: -4, Kind: 77}), kept(9, 0, 0, 0, "", impl.Entry{Term: -4, Kind: 78}))
	if checkSafe(t, odd).logs {
		t.Error("wrong entries")
	}
	odd = keeping(kept(9, 0, 0, 0, "", impl.Entry{}, noop(2)), kept(9, 0, 0, 0, "", impl.Entry{Data: []byte{}}, noop(2)))
	if !checkSafe(t, odd).logs {
		t.Error("zero entries")
	}
}

// stating has a replica for each of these states, all up, with nothing kept and nothing applied.
func stating(list ...impl.State) impl.Cluster {
	c := impl.Cluster{Group: groupOf(upTo(3))}
	for i, s := range list {
		c.R = append(c.R, impl.Replica{N: serverOf(i+1, kept(0, 0, 0, 0, "")), S: s, Up: true})
	}
	return c
}

// Whatever differs alone, be the state right or not: it is another one if both are up and have applied as much.
func TestStatesMatchOfOneOtherThing(t *testing.T) {
	plain, count := plainState(t), 0
	last := impl.State{}
	for _, x := range changesOf(plain) {
		other := cloneState(plain)
		x.do(&other)
		if isSameState(plain, other) {
			continue
		}
		count++
		c := stating(plain, other)
		if impl.StatesMatch(c) || impl.Safe(c) != 4 || impl.StatesMatch(stating(other, plain)) {
			t.Error(x.name)
		}
		c.R[1].Up = false
		if !impl.StatesMatch(c) || impl.Safe(c) != 0 {
			t.Error(x.name, "one is down")
		}
		if c = stating(other, cloneState(other)); !impl.StatesMatch(c) || impl.Safe(c) != 0 {
			t.Error(x.name, "both")
		}
		// Two wrong ones have no image, and are two all the same.
		if c = stating(last, other); impl.StatesMatch(c) != isSameState(last, other) {
			t.Error(x.name, "and the one ahead")
		}
		last = other
	}
	if count < 400 {
		t.Error(count)
	}
}

func TestStatesMatchOfUpAndApplied(t *testing.T) {
	plain := plainState(t)
	for _, applied := range [][2]int{{0, 0}, {1, 0}, {0, 1}, {1, 1}, {-1, -1}, {-1, 1}, {lastAt, lastAt}, {lastAt, lastAt + 1}, {math.MinInt, math.MinInt}, {math.MinInt, math.MaxInt}, {0, 1 << 32}} {
		for up := range 4 {
			for _, other := range []impl.State{plain, impl.StateNew(), {}} {
				c := stating(plain, other)
				for i := range 2 {
					c.R[i].Applied, c.R[i].Up = applied[i], up>>i&1 > 0
				}
				want := up < 3 || applied[0] != applied[1] || isSameState(plain, other)
				if got := checkSafe(t, c); got.states != want || want == (got.safe == 4) {
					t.Error(applied, up, got)
				}
			}
		}
	}
}

// Of more than two only two part, which may be any; who is down, or has applied otherwise, has any state.
func TestStatesMatchOfMany(t *testing.T) {
	plain, small := plainState(t), smallState(t)
	for count := range mostNodes + 2 {
		if got := checkSafe(t, stating(slices.Repeat([]impl.State{plain}, count)...)); !got.states || got.safe != 0 {
			t.Error(count, got)
		}
		for j := range count {
			other := stating(slices.Repeat([]impl.State{plain}, count)...)
			other.R[j].S = small
			if got := checkSafeQuick(t, other); got.states != (count < 2) {
				t.Error(count, j, got)
			}
			for i := range j {
				c := stating(slices.Repeat([]impl.State{plain}, count)...)
				for k := range c.R {
					if k != i && k != j {
						c.R[k].Up, c.R[k].Applied, c.R[k].S = k%2 > 0, k+1, small
					}
				}
				if got := checkSafeQuick(t, c); !got.states {
					t.Error(count, i, j, got)
				}
				c.R[j].S = impl.StateNew()
				if got := checkSafeQuick(t, c); got.states {
					t.Error(count, i, j, got)
				}
				c.R[i].Applied = 99
				if got := checkSafeQuick(t, c); !got.states {
					t.Error(count, i, j, "others applied", got)
				}
			}
		}
	}
}

// filed is a replica that is up, with these records, of which this is to have come.
func filed(k impl.Keep, b []byte) impl.Cluster {
	c := stating(impl.StateNew())
	c.R[0].N.K, c.R[0].F = k, impl.File{Bytes: b, Sure: len(b)}
	return c
}

func checkFiled(t *testing.T, what string, c impl.Cluster, want bool) {
	t.Helper()
	if got := checkSafe(t, c); got.files != want || got.safe != map[bool]int{false: 5}[want] {
		t.Errorf("%s: %+v", what, got)
	}
	for i := range c.R {
		if !c.R[i].Up {
			continue
		}
		// Of one that is down the file may be any; of one that is there beside it not.
		down := withCluster(c, func(c *impl.Cluster) { c.R[i].Up = false })
		if got := checkSafe(t, down); len(c.R) == 1 && !got.files {
			t.Errorf("%s, down: %+v", what, got)
		}
		beside := withCluster(c, func(c *impl.Cluster) { c.R = append(newClusterOf(3).R, c.R...) })
		beside.R[3].N.Id = 4
		if got := checkSafe(t, beside); got.files != want {
			t.Errorf("%s, beside others: %+v", what, got)
		}
	}
}

func newClusterOf(n int) impl.Cluster {
	c, _ := impl.ClusterNew(n, upTo(n))
	return c
}

// keptAndFiled is one with a term, a vote, a snapshot and entries of each kind, and its records.
func keptAndFiled(t *testing.T) (impl.Keep, [][]byte) {
	t.Helper()
	k := kept(4, 2, 30, 2, string(imageWanted(smallState(t))), noop(3), asked(3, "x"), regroup(4, 7, 3), asked(4, ""))
	inners := [][]byte{voteInner(4, 2), snapInner(30, 2, []byte{7, 0}, k.Snap)}
	for i, e := range k.Log {
		inners = append(inners, entryInner(31+i, e))
	}
	return k, inners
}

func TestFilesMatchTable(t *testing.T) {
	k, inners := keptAndFiled(t)
	whole := framesOf(inners...)
	checkFiled(t, "whole", filed(k, whole), true)
	checkFiled(t, "nothing of it", filed(k, nil), false)
	checkFiled(t, "empty", filed(kept(0, 0, 0, 0, ""), nil), true)
	checkFiled(t, "empty, not nil", filed(kept(0, 0, 0, 0, ""), []byte{}), true)
	checkFiled(t, "more than is kept", filed(kept(0, 0, 0, 0, ""), whole), false)
	for i := range inners {
		checkFiled(t, fmt.Sprint("up to record ", i), filed(k, framesOf(inners[:i]...)), false)
		checkFiled(t, fmt.Sprint("without record ", i), filed(k, framesOf(slices.Delete(slices.Clone(inners), i, i+1)...)), false)
	}
	for name, more := range map[string][]byte{
		"a byte":              {0},
		"a torn number":       {128},
		"a torn record":       framesOf(voteInner(4, 2))[:5],
		"what is no record":   frameOf([]byte{9}),
		"an empty frame":      frameOf(nil),
		"a snapshot again":    frameOf(inners[1]),
		"an entry too far":    frameOf(entryInner(36, noop(4))),
		"the vote of another": frameOf(voteInner(4, 3)),
		"a later term":        frameOf(voteInner(5, 0)),
		"an entry more":       frameOf(entryInner(35, noop(4))),
		"an entry fewer":      frameOf(cutInner(34)),
		"another entry":       frameOf(entryInner(34, asked(4, "y"))),
	} {
		checkFiled(t, name+" behind", filed(k, slices.Concat(whole, more)), false)
	}
	for name, more := range map[string][]byte{
		"the same vote":              frameOf(voteInner(4, 2)),
		"the same entry":             frameOf(entryInner(34, asked(4, ""))),
		"an entry, taken away":       framesOf(entryInner(35, noop(4)), cutInner(35)),
		"another entry, and the old": framesOf(entryInner(34, asked(4, "y")), entryInner(34, asked(4, ""))),
		"another vote, and the old":  framesOf(voteInner(4, 1), voteInner(4, 2)),
	} {
		checkFiled(t, name+" behind", filed(k, slices.Concat(whole, more)), true)
	}
}

// Each byte gone, doubled or turned; each beginning, each rest.
func TestFilesMatchOfOtherBytes(t *testing.T) {
	k, inners := keptAndFiled(t)
	whole := framesOf(inners...)
	for i := range whole {
		without, twice, turned := slices.Delete(slices.Clone(whole), i, i+1), slices.Insert(slices.Clone(whole), i, whole[i]), slices.Clone(whole)
		turned[i] ^= 1 << (i % 8)
		for what, b := range map[string][]byte{"without": without, "twice": twice, "turned": turned, "up to": whole[:i], "from": whole[i+1:]} {
			c := filed(k, b)
			if impl.FilesMatch(c) || impl.Safe(c) != 5 {
				t.Fatal(what, i)
			}
			if i%29 == 0 {
				checkFiled(t, fmt.Sprint(what, " ", i), c, false)
			}
		}
	}
	// How much of it is sure is not asked here, nor whether the file is right.
	for _, sure := range []int{math.MinInt, -1, 0, 1, len(whole), len(whole) + 1, math.MaxInt} {
		c := filed(k, whole)
		c.R[0].F.Sure = sure
		checkFiled(t, fmt.Sprint(sure, " sure"), c, true)
	}
}

// Each field of what is kept alone is otherwise.
func TestFilesMatchOfOtherKeeps(t *testing.T) {
	k, inners := keptAndFiled(t)
	whole := framesOf(inners...)
	for name, change := range map[string]func(k *impl.Keep){
		"Term":              func(k *impl.Keep) { k.Term++ },
		"Term 0":            func(k *impl.Keep) { k.Term = 0 },
		"Vote":              func(k *impl.Keep) { k.Vote = 3 },
		"no Vote":           func(k *impl.Keep) { k.Vote = 0 },
		"Base":              func(k *impl.Keep) { k.Base++ },
		"no Base":           func(k *impl.Keep) { k.Base = 0 },
		"BaseTerm":          func(k *impl.Keep) { k.BaseTerm-- },
		"Group":             func(k *impl.Keep) { k.Group = groupOf([]int{1, 2}) },
		"Group, joint":      func(k *impl.Keep) { k.Group.Next = []int{4} },
		"no Group":          func(k *impl.Keep) { k.Group = impl.Group{} },
		"Snap, shorter":     func(k *impl.Keep) { k.Snap = k.Snap[1:] },
		"Snap, longer":      func(k *impl.Keep) { k.Snap = append(k.Snap, 0) },
		"Snap, another":     func(k *impl.Keep) { k.Snap[3] ^= 1 },
		"no Snap":           func(k *impl.Keep) { k.Snap = nil },
		"no Log":            func(k *impl.Keep) { k.Log = nil },
		"Log, fewer":        func(k *impl.Keep) { k.Log = k.Log[:3] },
		"Log, more":         func(k *impl.Keep) { k.Log = append(k.Log, noop(4)) },
		"Log, first gone":   func(k *impl.Keep) { k.Log = k.Log[1:] },
		"Log, another term": func(k *impl.Keep) { k.Log[0].Term-- },
		"Log, another kind": func(k *impl.Keep) { k.Log[3].Kind = 1 },
		"Log, other bytes":  func(k *impl.Keep) { k.Log[1].Data = []byte("y") },
		"Log, more bytes":   func(k *impl.Keep) { k.Log[1].Data = []byte("xx") },
		"Log, order":        func(k *impl.Keep) { k.Log[0], k.Log[1] = k.Log[1], k.Log[0] },
		"all":               func(k *impl.Keep) { *k = impl.Keep{} },
	} {
		other := cloneKeep(k)
		change(&other)
		checkFiled(t, name, filed(other, whole), false)
	}
	empty := cloneKeep(k)
	empty.Log[0].Data, empty.Log[3].Data, empty.Group.Next = []byte{}, nil, []int{}
	checkFiled(t, "empty lists", filed(empty, whole), true)
}

// The group at first is what all begins with; of a wrong one all is zero, and no record is done.
func TestFilesMatchOfGroups(t *testing.T) {
	vote := frameOf(voteInner(1, 1))
	for _, g := range []impl.Group{groupOf([]int{1}), groupOf(upTo(7)), groupOf([]int{1, 2}, 3)} {
		c := filed(withGroup(kept(1, 1, 0, 0, ""), g), vote)
		checkFiled(t, "another group", c, false)
		if c.Group = g; !impl.FilesMatch(c) || impl.Safe(c) != 0 {
			t.Error(g)
		}
	}
	for name, g := range wrongGroups() {
		c := filed(impl.Keep{}, nil)
		c.Group = g
		if got := checkSafe(t, c); !got.files || got.safe != 0 {
			t.Errorf("%s: %+v", name, got)
		}
		for _, other := range []impl.Cluster{filed(impl.Keep{}, vote), filed(impl.Keep{Term: 1, Vote: 1}, vote), filed(impl.Keep{Group: g, Term: 1}, nil), filed(withGroup(impl.Keep{}, groupOf(upTo(3))), nil)} {
			other.Group = g
			if got := checkSafe(t, other); got.files || got.safe != 5 {
				t.Errorf("%s: %+v", name, got)
			}
		}
	}
	if got := checkSafe(t, impl.Cluster{}); got != (safety{true, true, true, true, true, 0}) {
		t.Error("the zero one:", got)
	}
}

// Of more than one the first, one in the midst or the last is wrong.
func TestFilesMatchOfMany(t *testing.T) {
	for count := 1; count <= mostNodes; count++ {
		for place := range count {
			c := withCluster(newClusterOf(count), func(c *impl.Cluster) { c.R[place].F = fileOf("x", 1) })
			if got := checkSafe(t, c); got.files || got.safe != 5 {
				t.Error(count, place, got)
			}
			c.R[place].Up = false
			if got := checkSafe(t, c); !got.files || got.safe != 0 {
				t.Error(count, place, got)
			}
		}
	}
}

func TestAheadTable(t *testing.T) {
	for _, x := range []struct {
		applied int
		commit  int
		done    int
		up      bool
		want    bool
	}{
		{0, 0, 0, true, true},
		{0, 0, 0, false, true},
		{2, 3, 5, true, false},
		{3, 3, 5, true, true},
		{4, 3, 5, true, false},
		{2, 3, 5, false, true},
		{3, 3, 5, false, true},
		{4, 3, 5, false, true},
		{9, 3, 5, false, true},
		{9, 3, 5, true, false},
		{4, 4, 5, true, true},
		{5, 5, 5, true, true},
		{6, 6, 5, true, false},
		{5, 5, 5, false, true},
		{6, 6, 5, false, false},
		{0, 6, 5, false, false},
		{5, 6, 5, true, false},
		{6, 5, 5, true, false},
		{1, 1, 0, true, false},
		{1, 1, 0, false, false},
		{0, 1, 0, false, false},
		{-1, -1, 0, true, true},
		{-1, 0, 0, true, false},
		{0, -1, 0, false, true},
		{lastAt, lastAt, 5, true, false},
		{math.MaxInt, math.MaxInt, 5, false, false},
		{math.MinInt, math.MinInt, 0, true, true},
		{math.MinInt, math.MaxInt, 0, true, false},
		{0, 1 << 32, 5, false, false},
		{1 << 32, 0, 5, true, false},
	} {
		for count := 1; count <= 3; count++ {
			for place := range count {
				c := newClusterOf(count)
				for range x.done {
					c.Done, c.Said = append(c.Done, noop(1)), append(c.Said, "")
				}
				c.R[place].Applied, c.R[place].N.Commit, c.R[place].Up = x.applied, x.commit, x.up
				if got := checkSafe(t, c); got.ahead != x.want || got.safe != map[bool]int{false: 6}[x.want] {
					t.Errorf("%+v at %d of %d: %+v", x, place, count, got)
				}
			}
		}
	}
	// What was said is not counted.
	c := newClusterOf(1)
	c.R[0].Applied, c.R[0].N.Commit = 2, 2
	for done := range 4 {
		for said := range 4 {
			c.Done, c.Said = noops(1, done), make([]string, said)
			if got := checkSafe(t, c); got.ahead != (done >= 2) {
				t.Error(done, said, got)
			}
		}
	}
}

// breaks are what makes each of the questions false, and no other one, of midway.
func breaks() []func(*impl.Cluster) {
	return []func(*impl.Cluster){
		func(c *impl.Cluster) { c.Split = true },
		func(c *impl.Cluster) { c.Led = append(c.Led, [2]int{1, 3}) },
		func(c *impl.Cluster) { c.R[2].N.K.Log[1].Data = append(c.R[2].N.K.Log[1].Data, 'x') },
		func(c *impl.Cluster) { c.R[1].S.Count++ },
		func(c *impl.Cluster) { c.R[0].F.Bytes = append(c.R[0].F.Bytes, 'x') },
		func(c *impl.Cluster) { c.R[2].N.Commit = len(c.Done) + 1 },
	}
}

// Each alone, and any of them at once: the first is told.
func TestSafeTellsTheFirst(t *testing.T) {
	c := midway(t)
	if got := checkSafe(t, c); got != (safety{true, true, true, true, true, 0}) {
		t.Fatalf("midway: %+v", got)
	}
	list := breaks()
	for bits := range 1 << len(list) {
		broken, want := cloneCluster(c), 0
		for i := len(list) - 1; i >= 0; i-- {
			if bits>>i&1 > 0 {
				list[i](&broken)
				want = i + 1
			}
		}
		holds := func(number int) bool { return bits>>(number-1)&1 == 0 }
		if got := checkSafe(t, broken); got != (safety{holds(2), holds(3), holds(4), holds(5), holds(6), want}) {
			t.Errorf("%06b: %+v", bits, got)
		}
	}
}

// Whether a cluster is right is not asked: each question is asked of what is there.
func TestSafeOfWrongClusters(t *testing.T) {
	counts := map[int]int{}
	list := wrongChanges(t)
	for name, change := range rightChanges() {
		list["right: "+name] = change
	}
	for name, change := range list {
		c := withCluster(midway(t), change)
		counts[checkSafe(t, c).safe]++
		if impl.Safe(c) != safetyWanted(c).safe {
			t.Error(name)
		}
	}
	for _, safe := range []int{0, 1, 4, 5, 6} {
		if counts[safe] == 0 {
			t.Error("never seen:", safe, counts)
		}
	}
	nothing := impl.Cluster{R: make([]impl.Replica, 3), Net: make([]impl.Msg, 3), Led: make([][2]int, 3), Done: make([]impl.Entry, 3)}
	if got := checkSafe(t, nothing); got.safe != 0 {
		t.Error(got)
	}
	nothing.R[1].Up = true
	if got := checkSafe(t, nothing); got.safe != 0 {
		t.Error("up:", got)
	}
	nothing.Group = groupOf([]int{1})
	if got := checkSafe(t, nothing); got.safe != 5 {
		t.Error("a group:", got)
	}
}

// Clusters that came of nothing, and what becomes of them.
func TestSafeOfAnyClusters(t *testing.T) {
	counts := map[int]int{}
	for seed := range 1500 {
		chance := rand.New(rand.NewSource(int64(seed)))
		c := someCluster(t, chance)
		if seed%3 > 0 {
			c.Split = false
		}
		for i := range c.Led {
			c.Led[i] = [2]int{1 + i/2, 1 + chance.Intn(2)}
		}
		for i := range c.R {
			if chance.Intn(3) > 0 {
				b := recordsWanted(impl.Keep{Group: c.Group}, c.R[i].N.K)
				c.R[i].F, c.R[i].Applied = impl.File{Bytes: b, Sure: len(b)}, c.R[i].N.Commit
			}
			if chance.Intn(4) > 0 {
				c.R[i].N.K.Log, c.R[i].N.K.Base = c.R[0].N.K.Log, c.R[0].N.K.Base
			}
		}
		call := checkSafeQuick
		if seed%5 == 0 {
			call = checkSafe
		}
		counts[call(t, c).safe]++
		w := newClusterWalker(seed, c, map[string]int{})
		for range 3 {
			w.c, _ = impl.Do(w.c, w.someEvent(true))
		}
		counts[call(t, w.c).safe]++
	}
	for safe := range 7 {
		if counts[safe] < 10 {
			t.Error("hardly ever seen:", safe, counts)
		}
	}
}

// Promise 17: of a cluster that ClusterNew made all holds, behind each event, whatever it is.
func TestClustersAreSafe(t *testing.T) {
	seen := map[string]int{}
	for seed := range 56 {
		n := 1 + seed%mostNodes
		c, _ := impl.ClusterNew(n, upTo(max(1, n-seed%3)))
		w := newClusterWalker(1000+seed, c, seen)
		for step := range 400 {
			before := w.c
			e := w.someEvent(seed%4 > 0)
			got, ok := impl.Do(before, e)
			w.c = got
			if safe := impl.Safe(w.c); safe != 0 {
				t.Fatalf("seed %d, step %d, %s: %d", seed, step, eventText(e), safe)
			}
			if step%50 == 0 {
				checkSafe(t, w.c)
			}
			w.noted(e, before, ok)
		}
		checkSafeQuick(t, w.c)
	}
	for kind := 1; kind <= 10; kind++ {
		if what := fmt.Sprint("kind ", kind, " true"); seen[what] < 50 {
			t.Error("hardly ever seen:", what, seen[what])
		}
	}
	for _, what := range []string{"led", "applied", "net is full", "a snapshot came", "started with a snapshot", "a torn tail", "entries taken away", "joint", "settled", "said ok", "said error"} {
		if seen[what] < 3 {
			t.Error("hardly ever seen:", what, seen)
		}
	}
}

// The same of plays, in which any event is at any place: most of them do nothing.
func TestPlaysAreSafe(t *testing.T) {
	applied, led := 0, 0
	for seed := range 40 {
		chance := rand.New(rand.NewSource(int64(seed)))
		n := 1 + seed%mostNodes
		c, _ := impl.ClusterNew(n, upTo(n))
		for range 4 {
			list := []impl.Event{}
			for range mostEvents {
				list = append(list, playedEvent(chance, n))
			}
			c = impl.Play(c, list)
			if safe := impl.Safe(c); safe != 0 {
				t.Fatal(seed, safe)
			}
		}
		checkSafe(t, c)
		applied, led = applied+len(c.Done), led+len(c.Led)
	}
	if applied < 200 || led < 100 {
		t.Error("hardly anything happens:", applied, led)
	}
}

// A file is full at some time, and whoever writes into it is down, again and again.
func TestClustersWithFullFilesAreSafe(t *testing.T) {
	for _, n := range []int{1, 3} {
		c := newCluster(t, n)
		stopped := 0
		for round := range 50 {
			list, chief := []impl.Event{}, 1+round/5%n
			for id := range n {
				list = append(list, at(impl.EvStart, 1+id))
			}
			list = append(list, ticks(chief, waitTicks+3)...)
			list = append(list, slices.Repeat([]impl.Event{to(impl.EvDeliver, 0)}, 30)...)
			for range 25 {
				list = append(list, propose(chief, []byte(longText(mostCommand))))
				list = append(list, slices.Repeat([]impl.Event{to(impl.EvDeliver, 0)}, 3*n)...)
			}
			for id := range n {
				list = append(list, at(impl.EvCompact, 1+id))
			}
			c = impl.Play(c, append(list, tick(1+round%n, round)))
			if got := impl.Safe(c); got != 0 {
				t.Fatal(n, round, got)
			}
			for _, r := range c.R {
				if !r.Up {
					stopped++
				}
			}
		}
		if checkSafe(t, c); stopped < 10 || len(c.Done) < 500 || len(c.R[0].F.Bytes) < mostFile-2000 {
			t.Error("hardly ever full:", n, stopped, len(c.Done), len(c.R[0].F.Bytes))
		}
	}
}

// playedEvent knows nothing of the cluster but how many replicas there are.
func playedEvent(chance *rand.Rand, n int) impl.Event {
	id := 1 + chance.Intn(n)
	switch k := chance.Intn(40); {
	case k < 10:
		return tick(id, chance.Intn(9))
	case k < 28:
		return to(impl.EvDeliver, pickedOf(chance, 0, 0, 0, 1, 2, chance.Intn(mostNet)))
	case k == 28:
		return to(impl.EvDrop, chance.Intn(4))
	case k == 29:
		return to(impl.EvDouble, chance.Intn(4))
	case k == 30:
		return pickedOf(chance, at(impl.EvCrash, id), impl.Event{Kind: impl.EvTear, Coin: chance.Intn(40)})
	case k < 34:
		return at(impl.EvStart, id)
	case k == 34:
		return changeTo(id, idsOf(1+chance.Intn(1<<n-1))...)
	case k == 35:
		return at(impl.EvCompact, id)
	case k == 36:
		return impl.Event{Kind: chance.Intn(14) - 1, At: chance.Intn(n + 2), To: chance.Intn(9), Coin: chance.Intn(30) - 4}
	}
	return propose(id, bytesWanted(impl.Command{Kind: pickedOf(chance, 1, 11), Now: chance.Intn(50)}))
}
