package tests

import (
	"math"
	"math/big"
	"math/rand"
	"slices"
	"testing"

	"loop.example/g00113/impl"
)

const (
	mostAddrs = 300
	mostFree  = 1 << 62
)

// meets tells whether two right prefixes have an address together, by their numbers.
func meets(p impl.Prefix, q impl.Prefix) bool {
	return p.At.Six == q.At.Six && numberOf(p.At).Cmp(endOf(q)) < 0 && numberOf(q.At).Cmp(endOf(p)) < 0
}

func meetsOne(p impl.Prefix, list []impl.Prefix) bool {
	return slices.ContainsFunc(list, func(q impl.Prefix) bool { return meets(p, q) })
}

// searched has the first free prefix and the count of all, by a look at each one of a small pool.
func searched(pool impl.Prefix, used []impl.Prefix, bits int) (impl.Prefix, int) {
	first, count := impl.Prefix{}, 0
	p := impl.Prefix{At: pool.At, Bits: bits}
	for range 1 << (bits - pool.Bits) {
		if !meetsOne(p, used) {
			if count == 0 {
				first = p
			}
			count++
		}
		p.At = addrOfNumber(p.At.Six, endOf(p))
	}
	return first, count
}

// leastFree looks where alone the first free prefix of any pool can begin: with the pool, or at the next place behind a used one.
func leastFree(pool impl.Prefix, used []impl.Prefix, bits int) (impl.Prefix, bool) {
	size := uint(widthOf(pool.At.Six) - bits)
	places := []*big.Int{numberOf(pool.At)}
	for _, u := range used {
		if meets(u, pool) {
			n := new(big.Int).Sub(endOf(u), big.NewInt(1))
			n.Rsh(n, size)
			n.Add(n, big.NewInt(1))
			places = append(places, n.Lsh(n, size))
		}
	}
	slices.SortFunc(places, (*big.Int).Cmp)
	for _, n := range places {
		p := impl.Prefix{At: addrOfNumber(pool.At.Six, n), Bits: bits}
		if n.Cmp(endOf(pool)) < 0 && !meetsOne(p, used) {
			return p, true
		}
	}
	return impl.Prefix{}, false
}

// freeNumber counts the places of the pool, less those that a used prefix meets.
func freeNumber(pool impl.Prefix, used []impl.Prefix, bits int) int {
	size := uint(widthOf(pool.At.Six) - bits)
	type row struct{ from, to *big.Int }
	rows := []row{}
	for _, u := range used {
		if !meets(u, pool) {
			continue
		}
		from, to := numberOf(u.At), endOf(u)
		if from.Cmp(numberOf(pool.At)) < 0 {
			from = numberOf(pool.At)
		}
		if to.Cmp(endOf(pool)) > 0 {
			to = endOf(pool)
		}
		to.Sub(to, big.NewInt(1)).Rsh(to, size)
		rows = append(rows, row{from.Rsh(from, size), to.Add(to, big.NewInt(1))})
	}
	slices.SortFunc(rows, func(a, b row) int { return a.from.Cmp(b.from) })
	count := new(big.Int).Lsh(big.NewInt(1), uint(bits-pool.Bits))
	behind := new(big.Int)
	for _, r := range rows {
		if r.from.Cmp(behind) < 0 {
			r.from = behind
		}
		if r.to.Cmp(r.from) > 0 {
			count.Sub(count, new(big.Int).Sub(r.to, r.from))
			behind = r.to
		}
	}
	if count.Cmp(big.NewInt(mostFree)) > 0 {
		return mostFree
	}
	return int(count.Int64())
}

// greatest is the first that is free with the fewest bits of which one is.
func greatest(pool impl.Prefix, used []impl.Prefix) (impl.Prefix, bool) {
	for bits := pool.Bits; bits <= widthOf(pool.At.Six); bits++ {
		if p, ok := leastFree(pool, used, bits); ok {
			return p, true
		}
	}
	return impl.Prefix{}, false
}

// leastAddr is right for lists that may hold anything: what is not an address of the block is none of those that are looked at.
func leastAddr(block impl.Prefix, used []impl.Addr) (impl.Addr, bool) {
	for n := numberOf(block.At); n.Cmp(endOf(block)) < 0; n.Add(n, big.NewInt(1)) {
		if a := addrOfNumber(block.At.Six, n); !slices.Contains(used, a) {
			return a, true
		}
	}
	return impl.Addr{}, false
}

func checkFree(t *testing.T, pool impl.Prefix, used []impl.Prefix, bits int, want impl.Prefix, count int) {
	t.Helper()
	if got, ok := impl.FirstFree(pool, used, bits); got != want || ok != (count > 0) {
		t.Fatalf("FirstFree(%v, %s, %d) = %v, %v, not %v, %v", pool, textsOf(used), bits, got, ok, want, count > 0)
	}
	if got := impl.FreeCount(pool, used, bits); got != count {
		t.Fatalf("FreeCount(%v, %s, %d) = %d, not %d", pool, textsOf(used), bits, got, count)
	}
}

func checkLargest(t *testing.T, pool impl.Prefix, used []impl.Prefix, want impl.Prefix, there bool) {
	t.Helper()
	if got, ok := impl.Largest(pool, used); got != want || ok != there {
		t.Fatalf("Largest(%v, %s) = %v, %v, not %v, %v", pool, textsOf(used), got, ok, want, there)
	}
}

func checkAddr(t *testing.T, block impl.Prefix, used []impl.Addr, want impl.Addr, there bool) {
	t.Helper()
	if got, ok := impl.FirstAddr(block, used); got != want || ok != there {
		t.Fatalf("FirstAddr(%v, %v) = %v, %v, not %v, %v", block, used, got, ok, want, there)
	}
}

// checkNoRoom holds for what is refused: all answers are zero.
func checkNoRoom(t *testing.T, pool impl.Prefix, used []impl.Prefix, bits int) {
	t.Helper()
	checkFree(t, pool, used, bits, impl.Prefix{}, 0)
}

func TestFirstFreeTable(t *testing.T) {
	for _, c := range []struct {
		pool, used string
		bits       int
		want       string
		count      int
	}{
		// Ordinary pools.
		{"10.0.0.0/24", "10.0.0.0/26 10.0.0.96/28", 26, "10.0.0.128/26", 2},
		{"10.0.0.0/24", "10.0.0.0/26 10.0.0.96/28", 27, "10.0.0.64/27", 5},
		{"10.0.0.0/24", "10.0.0.0/26", 28, "10.0.0.64/28", 12},
		{"10.0.0.0/8", "10.0.0.0/16 10.1.0.0/16 10.3.0.0/16", 16, "10.2.0.0/16", 253},
		{"2001:db8::/32", "2001:db8::/48 2001:db8:1::/48", 48, "2001:db8:2::/48", 65534},
		{"2001:db8::/126", "2001:db8::/128 2001:db8::2/128", 128, "2001:db8::1/128", 2},
		// Nothing is used.
		{"10.0.0.0/24", "", 24, "10.0.0.0/24", 1},
		{"10.0.0.0/24", "", 25, "10.0.0.0/25", 2},
		{"10.0.0.0/24", "", 32, "10.0.0.0/32", 256},
		{"ffff::/16", "", 128, "ffff::/128", mostFree},
		// All is used: by the pool itself, by more than it, by its halves, by its addresses.
		{"10.0.0.0/24", "10.0.0.0/24", 24, "", 0},
		{"10.0.0.0/24", "10.0.0.0/24", 32, "", 0},
		{"10.0.0.0/24", "10.0.0.0/8", 32, "", 0},
		{"10.0.0.0/24", "0.0.0.0/0", 32, "", 0},
		{"10.0.0.0/24", "10.0.0.128/25 10.0.0.0/25", 32, "", 0},
		{"10.0.0.0/31", "10.0.0.1/32 10.0.0.0/32", 32, "", 0},
		{"ffff::/16", "8000::/1", 128, "", 0},
		{"::/0", "8000::/1 ::/1", 128, "", 0},
		// Used prefixes outside the pool, beside it on both sides, and of the other width.
		{"10.0.1.0/24", "10.0.0.0/24 10.0.2.0/24 10.0.0.255/32 10.0.2.0/32", 24, "10.0.1.0/24", 1},
		{"0.0.0.0/24", "::/0 ::/128 ::/24 ::/120", 24, "0.0.0.0/24", 1},
		{"::/120", "0.0.0.0/0 0.0.0.0/24 0.0.0.0/32", 120, "::/120", 1},
		{"0.0.0.0/31", "::/128 ::1/128 0.0.0.0/32", 32, "0.0.0.1/32", 1},
		// They overlap one another, come twice, in any order.
		{"10.0.0.0/24", "10.0.0.64/26 10.0.0.0/25 10.0.0.64/27 10.0.0.0/25 10.0.0.0/32", 26, "10.0.0.128/26", 2},
		{"10.0.0.0/24", "10.0.0.32/27 10.0.0.0/27 10.0.0.32/27 10.0.0.0/27", 27, "10.0.0.64/27", 6},
		{"10.0.0.0/29", "10.0.0.7/32 10.0.0.0/32 10.0.0.3/32 10.0.0.0/32", 31, "10.0.0.4/31", 1},
		// Room enough in all, but nowhere in one part: free addresses that are neighbours, but no halves of one.
		{"10.0.0.0/30", "10.0.0.0/32 10.0.0.3/32", 31, "", 0},
		{"10.0.0.0/30", "10.0.0.0/32 10.0.0.3/32", 32, "10.0.0.1/32", 2},
		{"10.0.0.0/24", "10.0.0.0/32", 24, "", 0},
		{"10.0.0.0/24", "10.0.0.0/32", 25, "10.0.0.128/25", 1},
		{"10.0.0.0/24", "10.0.0.255/32 10.0.0.127/32", 25, "", 0},
		// Bits that are the pool's own, and the width.
		{"10.0.0.5/32", "", 32, "10.0.0.5/32", 1},
		{"10.0.0.5/32", "10.0.0.5/32", 32, "", 0},
		{"10.0.0.5/32", "10.0.0.4/32", 32, "10.0.0.5/32", 1},
		{"10.0.0.5/32", "10.0.0.4/31", 32, "", 0},
		{"::5/128", "", 128, "::5/128", 1},
		{"::5/128", "::5/128", 128, "", 0},
		{"::5/128", "::4/128 ::6/127", 128, "::5/128", 1},
		// Pools that are all of a width, and the last of it.
		{"0.0.0.0/0", "", 0, "0.0.0.0/0", 1},
		{"0.0.0.0/0", "0.0.0.0/0", 0, "", 0},
		{"0.0.0.0/0", "255.255.255.255/32", 0, "", 0},
		{"0.0.0.0/0", "::/0", 0, "0.0.0.0/0", 1},
		{"0.0.0.0/0", "", 32, "0.0.0.0/32", 1 << 32},
		{"0.0.0.0/0", "255.255.255.255/32", 32, "0.0.0.0/32", 1<<32 - 1},
		{"0.0.0.0/0", "0.0.0.0/1 128.0.0.0/2", 2, "192.0.0.0/2", 1},
		{"::/0", "", 0, "::/0", 1},
		{"::/0", "::/0", 0, "", 0},
		{"::/0", "::/1", 1, "8000::/1", 1},
		{"::/0", "::/1 8000::/2", 2, "c000::/2", 1},
		{"255.255.255.252/30", "255.255.255.252/31 255.255.255.254/32", 32, "255.255.255.255/32", 1},
		{"255.255.255.255/32", "", 32, "255.255.255.255/32", 1},
		{"ffff:ffff:ffff:ffff:ffff:ffff:ffff:fffe/127", "ffff:ffff:ffff:ffff:ffff:ffff:ffff:fffe/128", 128, "ffff:ffff:ffff:ffff:ffff:ffff:ffff:ffff/128", 1},
		// Around the places where one word ends and where a sign would be.
		{"::/63", "::/64", 64, "0:0:0:1::/64", 1},
		{"::/63", "::/64", 65, "0:0:0:1::/65", 2},
		{"::/63", "::/65", 65, "::8000:0:0:0/65", 3},
		{"7fff::/16", "7fff::/17", 17, "7fff:8000::/17", 1},
		{"::/0", "::/1", 128, "8000::/128", mostFree},
	} {
		want := impl.Prefix{}
		if c.want != "" {
			want = prefixOfText(t, c.want)
		}
		checkFree(t, prefixOfText(t, c.pool), prefixesOfTexts(t, c.used), c.bits, want, c.count)
	}
}

// A count of 2^62 is told, one less is told, and more is told as that: in one part, and in parts whose sum is past it.
func TestFreeCountBounds(t *testing.T) {
	for _, c := range []struct {
		pool, used string
		bits       int
		count      int
	}{
		{"::/66", "", 128, mostFree},
		{"::/66", "::/128", 128, mostFree - 1},
		{"::/66", "::3fff:ffff:ffff:ffff/128", 128, mostFree - 1},
		{"::/66", "::/127", 128, mostFree - 2},
		{"::/66", "::/67", 128, mostFree / 2},
		{"::/67", "", 128, mostFree / 2},
		{"::/65", "", 128, mostFree},
		{"::/65", "::/66", 128, mostFree},
		{"::/65", "::/66 ::4000:0:0:0/128", 128, mostFree - 1},
		{"::/65", "::/67 ::6000:0:0:0/67", 128, mostFree},
		{"::/65", "::/67 ::6000:0:0:0/67 ::2000:0:0:0/128", 128, mostFree - 1},
		{"::/65", "::/128", 128, mostFree},
		{"::/64", "", 128, mostFree},
		{"::/64", "::/65", 128, mostFree},
		{"::/64", "::/128", 128, mostFree},
		{"::/64", "::/66 ::c000:0:0:0/66", 128, mostFree},
		{"::/63", "", 128, mostFree},
		{"::/63", "::/65 0:0:0:1:8000::/65", 128, mostFree},
		{"::/63", "::8000:0:0:0/65", 128, mostFree},
		{"::/62", "0:0:0:1::/64", 128, mostFree},
		{"::/61", "0:0:0:1::/66 0:0:0:3::/66 0:0:0:5::/66 0:0:0:7::/66", 128, mostFree},
		{"::/1", "", 128, mostFree},
		{"::/0", "", 128, mostFree},
		{"::/0", "::/128", 128, mostFree},
		{"::/0", "::/1", 128, mostFree},
		{"::/0", "8000::/1", 128, mostFree},
		{"::/0", "::/66 ffff:ffff:ffff:ffff:c000::/66", 128, mostFree},
		{"::/0", "", 61, mostFree / 2},
		{"::/0", "", 62, mostFree},
		{"::/0", "::/128", 62, mostFree - 1},
		{"::/0", "::/62", 62, mostFree - 1},
		{"::/0", "ffff:ffff:ffff:ffff:ffff:ffff:ffff:ffff/128", 62, mostFree - 1},
		{"::/0", "", 63, mostFree},
		{"::/0", "::/1", 63, mostFree},
		{"::/0", "::/1 8000::/128", 63, mostFree - 1},
		{"::/0", "::/2 c000::/2", 63, mostFree},
		{"::/0", "::/2 c000::/2 4000::/128", 63, mostFree - 1},
		{"::/0", "", 64, mostFree},
		{"::/0", "::/2 c000::/2", 64, mostFree},
		{"::/0", "", 65, mostFree},
		{"::/0", "", 127, mostFree},
		{"::/1", "", 63, mostFree},
		{"8000::/1", "8000::/63", 63, mostFree - 1},
		{"8000::/1", "", 64, mostFree},
		{"0.0.0.0/0", "", 31, 1 << 31},
		{"0.0.0.0/0", "0.0.0.0/1", 32, 1 << 31},
	} {
		pool, used := prefixOfText(t, c.pool), prefixesOfTexts(t, c.used)
		for range 2 {
			if got := impl.FreeCount(pool, used, c.bits); got != c.count {
				t.Errorf("FreeCount(%s, %s, %d) = %d, not %d", c.pool, textsOf(used), c.bits, got, c.count)
			}
			slices.Reverse(used)
		}
		if freeNumber(pool, used, c.bits) != c.count {
			t.Errorf("the table is wrong: %v", c)
		}
	}
}

// With nothing used there is room wherever the bits are the pool's to the width's, and none elsewhere.
func TestFreeOfAllBits(t *testing.T) {
	far := []int{math.MinInt, math.MinInt + 1, math.MinInt + 32, math.MinInt + 128, -256, -129, -128, -33, -32, -2, -1, 129, 130, 160, 256, math.MaxInt - 1, math.MaxInt}
	for _, pool := range rightPrefixes() {
		for bits := range 129 {
			if bits < pool.Bits || bits > widthOf(pool.At.Six) {
				checkNoRoom(t, pool, nil, bits)
				continue
			}
			count := mostFree
			if bits-pool.Bits < 62 {
				count = 1 << (bits - pool.Bits)
			}
			checkFree(t, pool, nil, bits, impl.Prefix{At: pool.At, Bits: bits}, count)
			checkNoRoom(t, pool, []impl.Prefix{pool}, bits)
		}
		for _, bits := range far {
			checkNoRoom(t, pool, nil, bits)
			checkNoRoom(t, pool, []impl.Prefix{pool}, bits)
		}
		checkLargest(t, pool, nil, pool, true)
		checkLargest(t, pool, []impl.Prefix{}, pool, true)
		checkLargest(t, pool, []impl.Prefix{pool}, impl.Prefix{}, false)
	}
}

// Every pool of a room of eight cells, with lists of used prefixes of it in and outside the pool, against a look at each one.
func TestFreeEveryList(t *testing.T) {
	for i, r := range rooms() {
		list, sets := r.parts()
		for j, pool := range list {
			for mask := i + j; mask < 1<<len(list); mask += 251 + 2*i {
				used, set := pickOf(list, sets, mask)
				if mask%2 == 1 {
					slices.Reverse(used)
				}
				for bits := pool.Bits; bits <= min(pool.Bits+4, widthOf(pool.At.Six)); bits++ {
					want, count := searched(pool, used, bits)
					checkFree(t, pool, used, bits, want, count)
				}
				left := r.fewest(sets[j] &^ set)
				want := impl.Prefix{}
				for k, p := range left {
					if k == 0 || p.Bits < want.Bits {
						want = p
					}
				}
				checkLargest(t, pool, used, want, len(left) > 0)
			}
		}
	}
}

// near is a prefix with some part of the pool: within it, or it and more.
func near(chance *rand.Rand, pool impl.Prefix) impl.Prefix {
	n := new(big.Int).Rand(chance, countOf(pool))
	if chance.Intn(2) == 0 {
		n.Rsh(n, uint(chance.Intn(sizeOf(pool)+1)))
	}
	a := addrOfNumber(pool.At.Six, n.Add(n, numberOf(pool.At)))
	bits := pool.Bits + chance.Intn(sizeOf(pool)+1)
	if chance.Intn(60) == 0 {
		bits = chance.Intn(pool.Bits + 1)
	}
	return prefixAt(a, bits)
}

// What is first free lies in the pool and overlaps nothing; what is less overlaps something: in pools of any size.
func TestFirstFreeIsFreeAndNothingLess(t *testing.T) {
	chance := rand.New(rand.NewSource(4))
	found, full := 0, 0
	for range 4000 {
		six := chance.Intn(2) == 0
		pool := prefixAt(addrOfNumber(six, new(big.Int).Rand(chance, lastNumber(six))), chance.Intn(widthOf(six)+1))
		used := []impl.Prefix{}
		for range chance.Intn(12) {
			used = append(used, near(chance, pool))
		}
		if chance.Intn(3) == 0 {
			used = append(used, near(chance, impl.Prefix{At: impl.Addr{Six: !six}}), near(chance, impl.Prefix{At: impl.Addr{Six: six}, Bits: 1}))
		}
		chance.Shuffle(len(used), func(i, j int) { used[i], used[j] = used[j], used[i] })
		bits := pool.Bits + chance.Intn(sizeOf(pool)+1)
		want, ok := leastFree(pool, used, bits)
		count := freeNumber(pool, used, bits)
		if ok != (count > 0) {
			t.Fatalf("both ways of searching differ: %v %s %d", pool, textsOf(used), bits)
		}
		checkFree(t, pool, used, bits, want, count)
		large, there := greatest(pool, used)
		checkLargest(t, pool, used, large, there)
		if ok {
			found++
		} else {
			full++
		}
	}
	if found < 1000 || full < 100 {
		t.Error("the pools are too much alike:", found, full)
	}
}

// Carved one by one, the pool is used up in rising order, the count falls by one, and then nothing is left.
func TestPoolUsedUp(t *testing.T) {
	for _, s := range []string{"10.0.0.0/24", "255.255.255.0/24", "2001:db8::/56", "::/56", "ffff:ffff:ffff:ffff:ffff:ffff:ffff:ff00/120"} {
		pool := prefixOfText(t, s)
		bits := pool.Bits + 8
		used := []impl.Prefix{prefixAt(pool.At, pool.Bits+5)}
		want := endOf(used[0])
		for left := 256 - 8; left > 0; left-- {
			p := impl.Prefix{At: addrOfNumber(pool.At.Six, want), Bits: bits}
			checkFree(t, pool, used, bits, p, left)
			used = append(used, p)
			want = endOf(p)
		}
		checkNoRoom(t, pool, used, bits)
		checkLargest(t, pool, used, impl.Prefix{}, false)
		used = slices.Delete(used, 100, 101)
		gap := impl.Prefix{At: addrOfNumber(pool.At.Six, endOf(used[99])), Bits: bits}
		checkFree(t, pool, used, bits, gap, 1)
		checkLargest(t, pool, used, gap, true)
	}
}

func TestLargestTable(t *testing.T) {
	for _, c := range []struct{ pool, used, want string }{
		{"10.0.0.0/24", "10.0.0.0/26 10.0.0.96/28", "10.0.0.128/25"},
		{"10.0.0.0/24", "10.0.0.255/32", "10.0.0.0/25"},
		{"10.0.0.0/24", "10.0.0.0/32", "10.0.0.128/25"},
		{"10.0.0.0/24", "10.0.0.0/25 10.0.0.128/26", "10.0.0.192/26"},
		// Of several of the greatest size the least; a smaller one ahead of it does not count.
		{"10.0.0.0/24", "10.0.0.0/26 10.0.0.192/26", "10.0.0.64/26"},
		{"10.0.0.0/24", "10.0.0.192/26 10.0.0.0/26", "10.0.0.64/26"},
		{"10.0.0.0/24", "10.0.0.64/26 10.0.0.128/26", "10.0.0.0/26"},
		{"10.0.0.0/29", "10.0.0.0/32 10.0.0.4/32", "10.0.0.2/31"},
		{"10.0.0.0/29", "10.0.0.1/32 10.0.0.3/32 10.0.0.5/32 10.0.0.7/32", "10.0.0.0/32"},
		{"10.0.0.0/29", "10.0.0.0/32 10.0.0.2/32 10.0.0.4/32 10.0.0.6/32", "10.0.0.1/32"},
		{"10.0.0.0/28", "10.0.0.0/32 10.0.0.8/32", "10.0.0.4/30"},
		// Free neighbours that are no halves of one do not join.
		{"10.0.0.0/30", "10.0.0.0/32 10.0.0.3/32", "10.0.0.1/32"},
		{"10.0.0.0/30", "10.0.0.0/30", ""},
		{"10.0.0.0/30", "10.0.0.2/31 10.0.0.0/31", ""},
		{"10.0.0.0/30", "0.0.0.0/0", ""},
		{"10.0.0.0/30", "::/0 10.0.0.4/30", "10.0.0.0/30"},
		{"10.0.0.1/32", "10.0.0.0/32", "10.0.0.1/32"},
		{"0.0.0.0/0", "0.0.0.0/32", "128.0.0.0/1"},
		{"0.0.0.0/0", "0.0.0.0/1", "128.0.0.0/1"},
		{"0.0.0.0/0", "255.255.255.255/32 0.0.0.0/32", "64.0.0.0/2"},
		{"::/0", "8000::/128", "::/1"},
		{"::/0", "::/1 ffff::/16", "8000::/2"},
		{"::/63", "::/128", "0:0:0:1::/64"},
		{"::/127", "::/128", "::1/128"},
	} {
		want := impl.Prefix{}
		if c.want != "" {
			want = prefixOfText(t, c.want)
		}
		checkLargest(t, prefixOfText(t, c.pool), prefixesOfTexts(t, c.used), want, c.want != "")
	}
}

func TestWrongRoom(t *testing.T) {
	pool, beside := prefixOfText(t, "10.0.0.0/24"), prefixOfText(t, "11.0.0.0/24")
	all := prefixOfText(t, "::/0")
	for _, w := range wrongPrefixes() {
		for bits := -1; bits <= 129; bits++ {
			checkNoRoom(t, w, nil, bits)
		}
		for _, bits := range []int{math.MinInt, w.Bits, math.MaxInt} {
			checkNoRoom(t, w, nil, bits)
			checkNoRoom(t, w, []impl.Prefix{beside}, bits)
			checkNoRoom(t, w, []impl.Prefix{w}, bits)
		}
		checkLargest(t, w, nil, impl.Prefix{}, false)
		checkLargest(t, w, []impl.Prefix{beside}, impl.Prefix{}, false)
		checkLargest(t, w, []impl.Prefix{w}, impl.Prefix{}, false)
		checkAddr(t, w, nil, impl.Addr{}, false)
		checkAddr(t, w, []impl.Addr{w.At}, impl.Addr{}, false)
		// A wrong one is told wherever it stands, also where what is right already decides.
		for _, list := range [][]impl.Prefix{{w}, {beside, w}, {w, beside}, {pool, w}, {w, pool}, {beside, w, pool}} {
			for _, bits := range []int{24, 26, 32} {
				checkNoRoom(t, pool, list, bits)
			}
			for _, bits := range []int{0, 32, 64, 128} {
				checkNoRoom(t, all, list, bits)
			}
			checkLargest(t, pool, list, impl.Prefix{}, false)
			checkLargest(t, all, list, impl.Prefix{}, false)
		}
	}
}

func TestFirstAddrTable(t *testing.T) {
	last := lastNarrow
	for _, c := range []struct {
		block string
		used  []impl.Addr
		want  impl.Addr
		ok    bool
	}{
		{"10.0.0.0/30", nil, narrow(0x0a000000), true},
		{"10.0.0.0/30", []impl.Addr{}, narrow(0x0a000000), true},
		{"10.0.0.0/30", []impl.Addr{narrow(0x0a000000)}, narrow(0x0a000001), true},
		{"10.0.0.0/30", []impl.Addr{narrow(0x0a000001)}, narrow(0x0a000000), true},
		{"10.0.0.0/30", []impl.Addr{narrow(0x0a000001), narrow(0x0a000000)}, narrow(0x0a000002), true},
		{"10.0.0.0/30", []impl.Addr{narrow(0x0a000002), narrow(0x0a000000), narrow(0x0a000000)}, narrow(0x0a000001), true},
		// The last alone is free, and then none.
		{"10.0.0.0/30", []impl.Addr{narrow(0x0a000002), narrow(0x0a000001), narrow(0x0a000000)}, narrow(0x0a000003), true},
		{"10.0.0.0/30", []impl.Addr{narrow(0x0a000002), narrow(0x0a000001), narrow(0x0a000000), narrow(0x0a000003)}, impl.Addr{}, false},
		// A single address.
		{"10.0.0.3/32", nil, narrow(0x0a000003), true},
		{"10.0.0.3/32", []impl.Addr{narrow(0x0a000002), narrow(0x0a000004)}, narrow(0x0a000003), true},
		{"10.0.0.3/32", []impl.Addr{narrow(0x0a000003)}, impl.Addr{}, false},
		{"0.0.0.0/32", []impl.Addr{narrow(0)}, impl.Addr{}, false},
		{"::5/128", nil, wide(0, 5), true},
		{"::5/128", []impl.Addr{wide(0, 5)}, impl.Addr{}, false},
		{"::5/128", []impl.Addr{wide(5, 0), wide(0, 4)}, wide(0, 5), true},
		// The block ends with the last address of its width.
		{"255.255.255.255/32", nil, narrow(last), true},
		{"255.255.255.255/32", []impl.Addr{narrow(last)}, impl.Addr{}, false},
		{"255.255.255.254/31", []impl.Addr{narrow(last - 1)}, narrow(last), true},
		{"255.255.255.254/31", []impl.Addr{narrow(last - 1), narrow(last)}, impl.Addr{}, false},
		{"ffff:ffff:ffff:ffff:ffff:ffff:ffff:fffe/127", []impl.Addr{wide(-1, -2)}, wide(-1, -1), true},
		{"ffff:ffff:ffff:ffff:ffff:ffff:ffff:fffe/127", []impl.Addr{wide(-1, -1), wide(-1, -2)}, impl.Addr{}, false},
		// All of a width.
		{"0.0.0.0/0", []impl.Addr{narrow(0), narrow(1), narrow(last)}, narrow(2), true},
		{"::/0", []impl.Addr{wide(0, 0), wide(0, 1), wide(-1, -1)}, wide(0, 2), true},
		{"8000::/1", []impl.Addr{wide(math.MinInt, 0)}, wide(math.MinInt, 1), true},
		{"::7fff:ffff:ffff:fffe/127", []impl.Addr{wide(0, math.MaxInt-1)}, wide(0, math.MaxInt), true},
		// Outside the block, and of the other width with the same numbers.
		{"10.0.0.0/30", []impl.Addr{narrow(0x0a000004), narrow(0x09ffffff), narrow(0), narrow(last)}, narrow(0x0a000000), true},
		{"0.0.0.0/30", []impl.Addr{wide(0, 0), wide(0, 1)}, narrow(0), true},
		{"::/126", []impl.Addr{narrow(0), narrow(1)}, wide(0, 0), true},
		{"0.0.0.0/31", []impl.Addr{narrow(0), wide(0, 1)}, narrow(1), true},
		{"::1:0:0:0:0/64", []impl.Addr{wide(0, 0), wide(2, 0)}, wide(1, 0), true},
	} {
		checkAddr(t, prefixOfText(t, c.block), c.used, c.want, c.ok)
	}
}

// An Addr that is not AddrOk is no address of the block: it takes none away, not even the zero one.
func TestFirstAddrWrongUsed(t *testing.T) {
	for _, s := range []string{"0.0.0.0/0", "0.0.0.0/30", "0.0.0.0/32", "10.0.0.0/24", "255.255.255.254/31", "::/0", "::/126", "ffff::/16"} {
		block := prefixOfText(t, s)
		checkAddr(t, block, wrongAddrs(), block.At, true)
		for _, w := range wrongAddrs() {
			checkAddr(t, block, []impl.Addr{w}, block.At, true)
			want, ok := leastAddr(block, []impl.Addr{block.At})
			checkAddr(t, block, []impl.Addr{w, block.At}, want, ok)
			checkAddr(t, block, []impl.Addr{block.At, w}, want, ok)
		}
	}
}

// Every set of used addresses in blocks of up to eight, with others between that take nothing.
func TestFirstAddrEverySet(t *testing.T) {
	chance := rand.New(rand.NewSource(5))
	for _, base := range []impl.Addr{narrow(0), narrow(0x0a0000f8), narrow(lastNarrow - 7), wide(0, 0), wide(0, math.MaxInt-7), wide(0, math.MinInt), wide(7, -8), wide(-1, -8)} {
		for size := range 4 {
			block := impl.Prefix{At: base, Bits: widthOf(base.Six) - size}
			for set := range 1 << 8 {
				used := []impl.Addr{}
				for i := range 8 {
					a := addrOfNumber(base.Six, new(big.Int).Add(numberOf(base), big.NewInt(int64(i))))
					if set>>i&1 == 1 {
						used = append(used, a, a)[:len(used)+1+chance.Intn(2)]
					} else {
						used = append(used, impl.Addr{Six: !a.Six, Hi: a.Hi, Lo: a.Lo})
					}
				}
				chance.Shuffle(len(used), func(i, j int) { used[i], used[j] = used[j], used[i] })
				want, ok := leastAddr(block, used)
				checkAddr(t, block, used, want, ok)
			}
		}
	}
}

// A list of 300 is taken, one of 301 is not, whatever it holds.
func TestRoomOf300(t *testing.T) {
	for _, six := range []bool{false, true} {
		width := widthOf(six)
		pool := impl.Prefix{At: impl.Addr{Six: six, Lo: 0x0a000000}, Bits: width - 9}
		addrs, list := []impl.Addr{}, []impl.Prefix{}
		for i := range 301 {
			a := impl.Addr{Six: six, Lo: 0x0a000000 + i}
			addrs = append(addrs, a)
			list = append(list, impl.Prefix{At: a, Bits: width})
		}
		next := addrs[300]
		last := impl.Prefix{At: impl.Addr{Six: six, Lo: 0x0a000180}, Bits: width - 7}
		checkAddr(t, pool, addrs[:mostAddrs], next, true)
		checkFree(t, pool, list[:mostPrefixes], width, impl.Prefix{At: next, Bits: width}, 512-300)
		checkLargest(t, pool, list[:mostPrefixes], last, true)
		checkAddr(t, pool, addrs, impl.Addr{}, false)
		checkNoRoom(t, pool, list, width)
		checkLargest(t, pool, list, impl.Prefix{}, false)

		// All outside the pool, and all alike.
		other := impl.Prefix{At: impl.Addr{Six: six, Lo: 0x0b000000}, Bits: width - 9}
		first := impl.Prefix{At: other.At, Bits: width}
		checkAddr(t, other, addrs[:mostAddrs], other.At, true)
		checkFree(t, other, list[:mostPrefixes], width, first, 512)
		checkLargest(t, other, list[:mostPrefixes], other, true)
		checkAddr(t, other, addrs, impl.Addr{}, false)
		checkNoRoom(t, other, list, width)
		checkLargest(t, other, list, impl.Prefix{}, false)
		same, alike := slices.Repeat(addrs[:1], 301), slices.Repeat(list[:1], 301)
		checkAddr(t, pool, same[:mostAddrs], addrs[1], true)
		checkFree(t, pool, alike[:mostPrefixes], width, list[1], 511)
		checkAddr(t, pool, same, impl.Addr{}, false)
		checkNoRoom(t, pool, alike, width)

		// Too many, though none of them is an address.
		wrong := slices.Repeat(wrongAddrs()[:1], 301)
		checkAddr(t, pool, wrong[:mostAddrs], pool.At, true)
		checkAddr(t, pool, wrong, impl.Addr{}, false)
	}
}

// Lists of 300 far apart, in any order, against the ways that are right for pools of any size.
func TestRoomOf300Spread(t *testing.T) {
	chance := rand.New(rand.NewSource(6))
	for _, six := range []bool{false, true} {
		used := spread(chance, six, mostPrefixes)
		pool := impl.Prefix{At: impl.Addr{Six: six}}
		for bits := range widthOf(six) + 1 {
			want, _ := leastFree(pool, used, bits)
			checkFree(t, pool, used, bits, want, freeNumber(pool, used, bits))
		}
		large, ok := greatest(pool, used)
		checkLargest(t, pool, used, large, ok)
		addrs := []impl.Addr{}
		for _, p := range used {
			addrs = append(addrs, p.At)
		}
		a, ok := leastAddr(pool, addrs)
		checkAddr(t, pool, addrs, a, ok)
	}
}

// What is told of the largest is of Without, and nothing of it is wider.
func TestLargestIsOfWithout(t *testing.T) {
	chance := rand.New(rand.NewSource(7))
	for range 500 {
		pool := prefixAt(narrow(chance.Intn(lastNarrow)), chance.Intn(25))
		used := []impl.Prefix{}
		for range 1 + chance.Intn(20) {
			used = append(used, near(chance, pool))
		}
		left := impl.Without(pool, used)
		got, ok := impl.Largest(pool, used)
		if ok != (len(left) > 0) || ok && !slices.Contains(left, got) {
			t.Fatalf("Largest(%v, %s) = %v, %v, of %s", pool, textsOf(used), got, ok, textsOf(left))
		}
		for _, p := range left {
			if p.Bits < got.Bits || p.Bits == got.Bits && numberOf(p.At).Cmp(numberOf(got.At)) < 0 {
				t.Fatalf("Largest(%v, %s) = %v, but %v is left", pool, textsOf(used), got, p)
			}
		}
	}
}

// Nothing is written into a list or behind it, nothing behind it is read, and a second call answers the same.
func TestRoomListsStay(t *testing.T) {
	pool := prefixOfText(t, "10.0.0.0/29")
	room := prefixesOfTexts(t, "10.0.0.7/32 10.0.0.0/31 10.0.0.3/32 10.0.0.0/32 10.0.0.0/29 0.0.0.0/0")
	kept := slices.Clone(room)
	addrs := []impl.Addr{narrow(0x0a000001), wide(0, 7), narrow(-1), narrow(0x0a000000), narrow(0x0a000002), narrow(0x0a000003)}
	keptAddrs := slices.Clone(addrs)
	for range 2 {
		checkFree(t, pool, room[:4], 32, prefixOfText(t, "10.0.0.2/32"), 4)
		checkFree(t, pool, room[:4], 31, prefixOfText(t, "10.0.0.4/31"), 1)
		checkLargest(t, pool, room[:4], prefixOfText(t, "10.0.0.4/31"), true)
		checkAddr(t, pool, addrs[:4], narrow(0x0a000002), true)
		if !sameList(room, kept) || !slices.Equal(addrs, keptAddrs) {
			t.Fatal("a list was changed:", room, addrs)
		}
	}
}
