package tests

import (
	"fmt"
	"math"
	"math/big"
	"math/rand"
	"regexp"
	"slices"
	"strconv"
	"strings"
	"testing"

	"loop.example/g00113/impl"
)

const (
	mostPools  = 20
	mostBlocks = 60
	mostOwner  = 12
	mostDeeper = 20
)

var ownerForm = regexp.MustCompile(`\A[a-z0-9-]{1,12}\z`)

// isPrefix tells a right prefix by its number, which prefixAt leaves as it is.
func isPrefix(p impl.Prefix) bool {
	narrowOk := p.At.Hi == 0 && p.At.Lo >= 0 && p.At.Lo <= lastNarrow
	return (p.At.Six || narrowOk) && p.Bits >= 0 && p.Bits <= widthOf(p.At.Six) && prefixAt(p.At, p.Bits) == p
}

func isPool(q impl.Pool) bool {
	if !isPrefix(q.At) || q.Bits > widthOf(q.At.At.Six) || q.Bits < q.At.Bits {
		return false
	}
	return q.Bits-q.At.Bits <= mostDeeper
}

func lies(p impl.Prefix, q impl.Prefix) bool {
	return meets(p, q) && p.Bits >= q.Bits
}

// isBehind is the order of prefixes: those of 32 bits first, then by their numbers, then by their bits.
func isBehind(p impl.Prefix, q impl.Prefix) bool {
	if p.At.Six != q.At.Six {
		return q.At.Six
	}
	n := numberOf(p.At).Cmp(numberOf(q.At))
	return n < 0 || n == 0 && p.Bits < q.Bits
}

// allApart looks at every two of the list: that the one behind begins where the one ahead has ended, or is of 128 bits where that is not.
func allApart(list []impl.Prefix) bool {
	from, to := []*big.Int{}, []*big.Int{}
	for _, p := range list {
		from, to = append(from, numberOf(p.At)), append(to, endOf(p))
	}
	for j, q := range list {
		for i, p := range list[:j] {
			if p.At.Six && !q.At.Six || p.At.Six == q.At.Six && to[i].Cmp(from[j]) > 0 {
				return false
			}
		}
	}
	return true
}

func poolsAt(p impl.Plan) []impl.Prefix {
	list := []impl.Prefix{}
	for _, q := range p.Pools {
		list = append(list, q.At)
	}
	return list
}

func blocksAt(p impl.Plan) []impl.Prefix {
	list := []impl.Prefix{}
	for _, b := range p.Blocks {
		list = append(list, b.At)
	}
	return list
}

// planRight says of a plan what the document does, one thing after the other.
func planRight(p impl.Plan) bool {
	if len(p.Pools) > mostPools || len(p.Blocks) > mostBlocks {
		return false
	}
	for _, q := range p.Pools {
		if !isPool(q) {
			return false
		}
	}
	for _, b := range p.Blocks {
		in := func(q impl.Pool) bool { return lies(b.At, q.At) && b.At.Bits == q.Bits }
		if !isPrefix(b.At) || !ownerForm.MatchString(b.Owner) || !slices.ContainsFunc(p.Pools, in) {
			return false
		}
	}
	return allApart(poolsAt(p)) && allApart(blocksAt(p))
}

func clonePlan(p impl.Plan) impl.Plan {
	return impl.Plan{Pools: slices.Clone(p.Pools), Blocks: slices.Clone(p.Blocks)}
}

// samePlan takes a list without elements and nil for the same.
func samePlan(p impl.Plan, q impl.Plan) bool {
	return slices.Equal(p.Pools, q.Pools) && slices.Equal(p.Blocks, q.Blocks)
}

func withPool(p impl.Plan, pool impl.Pool) impl.Plan {
	p = clonePlan(p)
	place := 0
	for place < len(p.Pools) && isBehind(p.Pools[place].At, pool.At) {
		place++
	}
	p.Pools = slices.Insert(p.Pools, place, pool)
	return p
}

func withBlock(p impl.Plan, block impl.Block) impl.Plan {
	p = clonePlan(p)
	place := 0
	for place < len(p.Blocks) && isBehind(p.Blocks[place].At, block.At) {
		place++
	}
	p.Blocks = slices.Insert(p.Blocks, place, block)
	return p
}

func addWanted(p impl.Plan, pool impl.Pool) (impl.Plan, int) {
	switch {
	case !planRight(p) || !isPool(pool):
		return p, impl.PlanForm
	case len(p.Pools) == mostPools:
		return p, impl.PlanMany
	case meetsOne(pool.At, poolsAt(p)):
		return p, impl.PlanOver
	}
	return withPool(p, pool), impl.PlanGood
}

func dropWanted(p impl.Plan, at impl.Prefix) (impl.Plan, int) {
	switch {
	case !planRight(p) || !isPrefix(at):
		return p, impl.PlanForm
	case !slices.Contains(poolsAt(p), at):
		return p, impl.PlanNone
	case meetsOne(at, blocksAt(p)):
		return p, impl.PlanUsed
	}
	p = clonePlan(p)
	p.Pools = slices.DeleteFunc(p.Pools, func(q impl.Pool) bool { return q.At == at })
	return p, impl.PlanGood
}

// firstBlock tries one place of the pool after the other; a plan has so few blocks that a free one is met early.
func firstBlock(pool impl.Pool, taken []impl.Prefix) (impl.Prefix, bool) {
	b := impl.Prefix{At: pool.At.At, Bits: pool.Bits}
	for range 1 << (pool.Bits - pool.At.Bits) {
		if !slices.Contains(taken, b) {
			return b, true
		}
		b.At = addrOfNumber(b.At.Six, endOf(b))
	}
	return impl.Prefix{}, false
}

func carveWanted(p impl.Plan, pool impl.Prefix, owner string) (impl.Plan, impl.Prefix, int) {
	if !planRight(p) || !isPrefix(pool) || !ownerForm.MatchString(owner) {
		return p, impl.Prefix{}, impl.PlanForm
	}
	place := slices.Index(poolsAt(p), pool)
	if place < 0 {
		return p, impl.Prefix{}, impl.PlanNone
	}
	if len(p.Blocks) == mostBlocks {
		return p, impl.Prefix{}, impl.PlanMany
	}
	b, ok := firstBlock(p.Pools[place], blocksAt(p))
	if !ok {
		return p, impl.Prefix{}, impl.PlanFull
	}
	return withBlock(p, impl.Block{At: b, Owner: owner}), b, impl.PlanGood
}

func freeWanted(p impl.Plan, at impl.Prefix, owner string) (impl.Plan, int) {
	if !planRight(p) || !isPrefix(at) || !ownerForm.MatchString(owner) {
		return p, impl.PlanForm
	}
	place := slices.Index(p.Blocks, impl.Block{At: at, Owner: owner})
	if place < 0 {
		return p, impl.PlanNone
	}
	p = clonePlan(p)
	p.Blocks = slices.Delete(p.Blocks, place, place+1)
	return p, impl.PlanGood
}

// blockWanted is told whether p is right, as that is the same for many addresses.
func blockWanted(p impl.Plan, right bool, a impl.Addr) (impl.Block, bool) {
	at := impl.Prefix{At: a, Bits: widthOf(a.Six)}
	if !right || !isPrefix(at) {
		return impl.Block{}, false
	}
	for _, b := range p.Blocks {
		if lies(at, b.At) {
			return b, true
		}
	}
	return impl.Block{}, false
}

func usageWanted(p impl.Plan) []int {
	counts := []int{}
	if !planRight(p) {
		return counts
	}
	for _, q := range p.Pools {
		count := 0
		for _, b := range p.Blocks {
			if lies(b.At, q.At) {
				count++
			}
		}
		counts = append(counts, count)
	}
	return counts
}

// behind is what stands in the spare room of lists that are handed in: read as theirs it would make each of them wrong.
func behind() impl.Plan {
	pool := impl.Pool{At: impl.Prefix{At: narrow(7), Bits: 3}, Bits: 99}
	block := impl.Block{At: impl.Prefix{At: narrow(9), Bits: 1}, Owner: "Behind!"}
	return impl.Plan{Pools: []impl.Pool{pool, pool}, Blocks: []impl.Block{block, block}}
}

// scribble writes into all of a plan's memory, its spare room too.
func scribble(p impl.Plan) {
	for i := range p.Pools[:cap(p.Pools)] {
		p.Pools[:cap(p.Pools)][i] = impl.Pool{Bits: -i}
	}
	for i := range p.Blocks[:cap(p.Blocks)] {
		p.Blocks[:cap(p.Blocks)][i] = impl.Block{Owner: strconv.Itoa(i)}
	}
}

// askedWith hands p in with spare room behind its lists, and fails if the call changes them or the room, or answers any of their memory.
func askedWith(t *testing.T, p impl.Plan, call func(impl.Plan) impl.Plan) impl.Plan {
	t.Helper()
	room := impl.Plan{Pools: slices.Concat(p.Pools, behind().Pools), Blocks: slices.Concat(p.Blocks, behind().Blocks)}
	kept := clonePlan(room)
	answer := call(impl.Plan{Pools: room.Pools[:len(p.Pools)], Blocks: room.Blocks[:len(p.Blocks)]})
	if !samePlan(room, kept) {
		t.Fatalf("the plan %v was changed, or what stands behind: %v", p, room)
	}
	copied := clonePlan(answer)
	scribble(answer)
	if !samePlan(room, kept) {
		t.Fatalf("what was answered for %v has its memory", p)
	}
	return copied
}

func checkAdd(t *testing.T, p impl.Plan, pool impl.Pool) (impl.Plan, int) {
	t.Helper()
	code := -1
	got := askedWith(t, p, func(q impl.Plan) (answer impl.Plan) {
		answer, code = impl.AddPool(q, pool)
		return answer
	})
	if want, c := addWanted(p, pool); code != c || !samePlan(got, want) {
		t.Fatalf("AddPool(%v, %v) = %v, %d, not %v, %d", p, pool, got, code, want, c)
	}
	return got, code
}

func checkDrop(t *testing.T, p impl.Plan, at impl.Prefix) (impl.Plan, int) {
	t.Helper()
	code := -1
	got := askedWith(t, p, func(q impl.Plan) (answer impl.Plan) {
		answer, code = impl.DropPool(q, at)
		return answer
	})
	if want, c := dropWanted(p, at); code != c || !samePlan(got, want) {
		t.Fatalf("DropPool(%v, %v) = %v, %d, not %v, %d", p, at, got, code, want, c)
	}
	return got, code
}

func checkCarve(t *testing.T, p impl.Plan, pool impl.Prefix, owner string) (impl.Plan, impl.Prefix, int) {
	t.Helper()
	block, code := impl.Prefix{}, -1
	got := askedWith(t, p, func(q impl.Plan) (answer impl.Plan) {
		answer, block, code = impl.Carve(q, pool, owner)
		return answer
	})
	if want, b, c := carveWanted(p, pool, owner); code != c || block != b || !samePlan(got, want) {
		t.Fatalf("Carve(%v, %v, %q) = %v, %v, %d, not %v, %v, %d", p, pool, owner, got, block, code, want, b, c)
	}
	return got, block, code
}

func checkFreed(t *testing.T, p impl.Plan, at impl.Prefix, owner string) (impl.Plan, int) {
	t.Helper()
	code := -1
	got := askedWith(t, p, func(q impl.Plan) (answer impl.Plan) {
		answer, code = impl.Free(q, at, owner)
		return answer
	})
	if want, c := freeWanted(p, at, owner); code != c || !samePlan(got, want) {
		t.Fatalf("Free(%v, %v, %q) = %v, %d, not %v, %d", p, at, owner, got, code, want, c)
	}
	return got, code
}

func checkBlockOf(t *testing.T, p impl.Plan, list ...impl.Addr) {
	t.Helper()
	right := planRight(p)
	askedWith(t, p, func(q impl.Plan) impl.Plan {
		for _, a := range list {
			got, ok := impl.BlockOf(q, a)
			if want, there := blockWanted(p, right, a); got != want || ok != there {
				t.Fatalf("BlockOf(%v, %v) = %v, %v, not %v, %v", p, a, got, ok, want, there)
			}
		}
		return impl.Plan{}
	})
}

// checkLook asks what is told of a plan without changing it: whether it is right, how its pools are used, and whose the addresses at its edges are.
func checkLook(t *testing.T, p impl.Plan) {
	t.Helper()
	askedWith(t, p, func(q impl.Plan) impl.Plan {
		if got := impl.PlanOk(q); got != planRight(p) {
			t.Fatalf("PlanOk(%v) = %v", p, got)
		}
		if got := impl.Usage(q); !slices.Equal(got, usageWanted(p)) {
			t.Fatalf("Usage(%v) = %v, not %v", p, got, usageWanted(p))
		}
		return impl.Plan{}
	})
	list := []impl.Addr{}
	for _, at := range append(poolsAt(p), blocksAt(p)...) {
		list = append(list, edgesOf(at)...)
	}
	checkBlockOf(t, p, list...)
}

// edgesOf are the first and the last address of a right prefix, and those next to them outside it.
func edgesOf(p impl.Prefix) []impl.Addr {
	if !isPrefix(p) {
		return []impl.Addr{p.At}
	}
	list := []impl.Addr{}
	for _, from := range []*big.Int{numberOf(p.At), endOf(p)} {
		for _, step := range []int64{-1, 0} {
			n := new(big.Int).Add(from, big.NewInt(step))
			if n.Sign() >= 0 && n.Cmp(lastNumber(p.At.Six)) <= 0 {
				list = append(list, addrOfNumber(p.At.Six, n))
			}
		}
	}
	return list
}

// poolOfText reads a prefix, `>` and the bits of its blocks.
func poolOfText(t *testing.T, s string) impl.Pool {
	t.Helper()
	at, bits, _ := strings.Cut(s, ">")
	n, err := strconv.Atoi(bits)
	if err != nil {
		t.Fatal("no pool:", s)
	}
	return impl.Pool{At: prefixOfText(t, at), Bits: n}
}

// planOfTexts reads pools, and blocks as a prefix, `=` and the owner, as they stand.
func planOfTexts(t *testing.T, pools string, blocks string) impl.Plan {
	t.Helper()
	p := impl.Plan{}
	for _, s := range strings.Fields(pools) {
		p.Pools = append(p.Pools, poolOfText(t, s))
	}
	for _, s := range strings.Fields(blocks) {
		at, owner, _ := strings.Cut(s, "=")
		p.Blocks = append(p.Blocks, impl.Block{At: prefixOfText(t, at), Owner: owner})
	}
	return p
}

func planTexts(p impl.Plan) string {
	texts := []string{}
	for _, q := range p.Pools {
		texts = append(texts, textsOf([]impl.Prefix{q.At})+">"+strconv.Itoa(q.Bits))
	}
	for _, b := range p.Blocks {
		texts = append(texts, textsOf([]impl.Prefix{b.At})+"="+b.Owner)
	}
	return strings.Join(texts, " ")
}

// poolsOf is a plan of so many pools of 32 bits, far apart, of 2^deeper blocks each.
func poolsOf(count int, deeper int) impl.Plan {
	p := impl.Plan{}
	for i := range count {
		p.Pools = append(p.Pools, impl.Pool{At: impl.Prefix{At: narrow(i << 24), Bits: 16}, Bits: 16 + deeper})
	}
	return p
}

// filled is p with so many blocks of its pool place: the first ones, each of another owner.
func filled(p impl.Plan, place int, count int) impl.Plan {
	b := impl.Prefix{At: p.Pools[place].At.At, Bits: p.Pools[place].Bits}
	for i := range count {
		p = withBlock(p, impl.Block{At: b, Owner: "own-" + strconv.Itoa(i)})
		b.At = addrOfNumber(b.At.Six, endOf(b))
	}
	return p
}

func TestPlanConstants(t *testing.T) {
	if impl.MaxPools != mostPools || impl.MaxBlocks != mostBlocks || impl.MaxOwner != mostOwner {
		t.Error(impl.MaxPools, impl.MaxBlocks, impl.MaxOwner)
	}
	codes := []int{impl.PlanGood, impl.PlanForm, impl.PlanMany, impl.PlanOver, impl.PlanNone, impl.PlanFull, impl.PlanUsed}
	if !slices.Equal(codes, []int{0, 1, 2, 3, 4, 5, 6}) {
		t.Error(codes)
	}
}

func TestOwnerOk(t *testing.T) {
	for _, s := range []string{"a", "z", "0", "9", "-", "ann", "node-12", "--", "-a-", "0123456789-z", "abcdefghijkl", "zzzzzzzzzzzz", "------------"} {
		if !impl.OwnerOk(s) {
			t.Errorf("OwnerOk(%q) is false", s)
		}
	}
	for _, s := range []string{"", "Bob", "a b", " a", "a ", "a.b", "a_b", "a,b", "\n", "a\n", "\x00", "ä", "ａ", "٣", "\xff", "\u2010", "0123456789-zz", "abcdefghijklm", "-------------"} {
		if impl.OwnerOk(s) {
			t.Errorf("OwnerOk(%q) is true", s)
		}
	}
	for n := range 40 {
		if got := impl.OwnerOk(strings.Repeat("x", n)); got != (n >= 1 && n <= mostOwner) {
			t.Errorf("OwnerOk of %d bytes is %v", n, got)
		}
	}
	if impl.OwnerOk(strings.Repeat("x", 1<<20)) {
		t.Error("OwnerOk of very many bytes")
	}
}

// Each byte in each place of an owner: those just outside of what is allowed among them.
func TestOwnerOkEachByte(t *testing.T) {
	right := 0
	for c := range 256 {
		for length := 1; length <= mostOwner; length++ {
			for place := range length {
				b := []byte(strings.Repeat("m", length))
				b[place] = byte(c)
				want := c == '-' || c >= '0' && c <= '9' || c >= 'a' && c <= 'z'
				if got := impl.OwnerOk(string(b)); got != want {
					t.Fatalf("OwnerOk(%q) = %v", b, got)
				}
				if want != ownerForm.Match(b) {
					t.Fatalf("the form of owners is wrong: %q", b)
				}
				if want && length == 1 {
					right++
				}
			}
		}
	}
	if right != 37 {
		t.Error("bytes that are allowed:", right)
	}
}

func TestPlanOkTable(t *testing.T) {
	for _, c := range []struct {
		pools, blocks string
		want          bool
	}{
		{"", "", true},
		{"10.0.0.0/24>26", "", true},
		{"10.0.0.0/24>26", "10.0.0.0/26=ann", true},
		{"10.0.0.0/24>26", "10.0.0.0/26=ann 10.0.0.64/26=bob 10.0.0.128/26=ann 10.0.0.192/26=c", true},
		{"10.0.0.0/24>26 10.0.1.0/24>28 2001:db8::/32>48", "10.0.0.64/26=ann 10.0.1.240/28=bob 2001:db8:ffff::/48=ann", true},
		{"10.0.0.0/25>25 10.0.0.128/25>32", "10.0.0.0/25=a 10.0.0.255/32=a", true},
		// A pool whose blocks have its own bits, those of all of a width, single addresses.
		{"10.0.0.0/24>24", "10.0.0.0/24=ann", true},
		{"0.0.0.0/0>0", "0.0.0.0/0=ann", true},
		{"::/0>0", "::/0=ann", true},
		{"0.0.0.0/0>0 ::/0>20", "0.0.0.0/0=ann ffff:f000::/20=ann", true},
		{"10.0.0.1/32>32", "10.0.0.1/32=ann", true},
		{"::1/128>128", "::1/128=ann", true},
		{"255.255.255.255/32>32 ffff:ffff:ffff:ffff:ffff:ffff:ffff:ffff/128>128", "255.255.255.255/32=a ffff:ffff:ffff:ffff:ffff:ffff:ffff:ffff/128=a", true},
		// Up to 20 bits more than the pool has, none fewer, no more than the width.
		{"10.0.0.0/8>28", "10.255.255.240/28=ann", true},
		{"10.0.0.0/8>29", "", false},
		{"0.0.0.0/12>32", "", true},
		{"0.0.0.0/11>32", "", false},
		{"0.0.0.0/11>31", "", true},
		{"10.0.0.0/24>33", "", false},
		{"10.0.0.0/32>33", "", false},
		{"10.0.0.0/24>23", "", false},
		{"10.0.0.0/24>0", "", false},
		{"10.0.0.0/24>-1", "", false},
		{"0.0.0.0/0>-1", "", false},
		{"0.0.0.0/0>20", "", true},
		{"0.0.0.0/0>21", "", false},
		{"::/0>20", "", true},
		{"::/0>21", "", false},
		{"2001:db8::/64>84", "", true},
		{"2001:db8::/64>85", "", false},
		{"::/108>128", "::10:0/128=a", false},
		{"::/108>128", "::f:ffff/128=a", true},
		{"::/107>128", "", false},
		{"::/120>129", "", false},
		{"::/128>129", "", false},
		{"::/24>23", "", false},
		{"::/24>9223372036854775807", "", false},
		{"::/24>-9223372036854775808", "", false},
		{"::/128>-9223372036854775807", "", false},
		// Pools that do not rise, overlap, or come twice.
		{"10.0.1.0/24>26 10.0.0.0/24>26", "", false},
		{"2001:db8::/32>48 10.0.0.0/24>26", "", false},
		{"::/32>48 0.0.0.0/32>32", "", false},
		{"0.0.0.0/32>32 ::/32>48", "", true},
		{"7fff::/16>16 8000::/16>16", "", true},
		{"8000::/16>16 7fff::/16>16", "", false},
		{"0:0:0:1::/64>64 0:0:0:2::/64>64", "", true},
		{"10.0.0.0/24>26 10.0.0.0/24>26", "", false},
		{"10.0.0.0/24>26 10.0.0.0/24>27", "", false},
		{"10.0.0.0/24>26 10.0.0.0/25>26", "", false},
		{"10.0.0.0/25>26 10.0.0.0/24>26", "", false},
		{"10.0.0.0/24>26 10.0.0.128/25>26", "", false},
		{"10.0.0.0/24>26 10.0.0.255/32>32", "", false},
		{"10.0.0.0/23>26 10.0.1.0/24>26", "", false},
		{"10.0.0.0/16>26 10.0.1.0/24>26 10.0.2.0/24>26", "", false},
		{"9.0.0.0/8>8 10.0.0.0/8>8 10.255.0.0/16>16", "", false},
		{"10.0.0.0/24>26 10.0.2.0/24>26 10.0.1.0/24>26", "", false},
		// Blocks that do not rise, overlap, or come twice.
		{"10.0.0.0/24>26", "10.0.0.64/26=ann 10.0.0.0/26=ann", false},
		{"10.0.0.0/24>26", "10.0.0.0/26=ann 10.0.0.0/26=ann", false},
		{"10.0.0.0/24>26", "10.0.0.0/26=ann 10.0.0.0/26=bob", false},
		{"10.0.0.0/24>26", "10.0.0.0/26=ann 10.0.0.128/26=ann 10.0.0.64/26=bob", false},
		{"10.0.0.0/24>26 ::/120>122", "::/122=ann 10.0.0.0/26=ann", false},
		{"10.0.0.0/24>26 ::/120>122", "10.0.0.0/26=ann ::/122=ann", true},
		{"10.0.0.0/24>24", "10.0.0.0/24=ann 10.0.0.0/26=ann", false},
		{"10.0.0.0/24>24", "10.0.0.0/24=ann 10.0.0.0/24=ann", false},
		// A block in no pool, beside one, of the other width, wider than one.
		{"", "10.0.0.0/26=ann", false},
		{"10.0.0.0/24>26", "10.0.1.0/26=ann", false},
		{"10.0.0.0/24>26", "9.255.255.192/26=ann", false},
		{"10.0.0.0/24>26", "10.0.0.0/26=ann 10.0.1.0/26=ann", false},
		{"10.0.0.0/24>26", "11.0.0.0/26=ann", false},
		{"0.0.0.0/24>26", "::/26=ann", false},
		{"::/24>26", "0.0.0.0/26=ann", false},
		{"10.0.0.0/24>24", "10.0.0.0/23=ann", false},
		// Other bits than its pool's, also if they are another pool's.
		{"10.0.0.0/24>26", "10.0.0.0/25=ann", false},
		{"10.0.0.0/24>26", "10.0.0.0/27=ann", false},
		{"10.0.0.0/24>26", "10.0.0.0/24=ann", false},
		{"10.0.0.0/24>24", "10.0.0.0/25=ann", false},
		{"10.0.0.0/24>26 10.0.1.0/24>27", "10.0.0.0/27=ann", false},
		{"10.0.0.0/24>26 10.0.1.0/24>27", "10.0.1.0/26=ann", false},
		{"10.0.0.0/24>26 10.0.1.0/24>27", "10.0.0.0/26=ann 10.0.1.0/27=ann", true},
		// No owner, or none that is right.
		{"10.0.0.0/24>26", "10.0.0.0/26=", false},
		{"10.0.0.0/24>26", "10.0.0.0/26=Ann", false},
		{"10.0.0.0/24>26", "10.0.0.0/26=abcdefghijklm", false},
		{"10.0.0.0/24>26", "10.0.0.0/26=abcdefghijkl", true},
		{"10.0.0.0/24>26", "10.0.0.0/26=ann 10.0.0.64/26=a_b", false},
		{"10.0.0.0/24>26", "10.0.0.0/26=a_b 10.0.0.64/26=ann", false},
	} {
		p := planOfTexts(t, c.pools, c.blocks)
		if got := impl.PlanOk(p); got != c.want {
			t.Errorf("PlanOk(%s; %s) = %v", c.pools, c.blocks, got)
		}
		if planRight(p) != c.want {
			t.Errorf("the table is wrong: %s; %s", c.pools, c.blocks)
		}
		checkLook(t, p)
	}
}

// A pool's or a block's prefix that is not right makes the plan wrong, wherever it stands.
func TestPlanOkWrongPrefixes(t *testing.T) {
	for _, w := range wrongPrefixes() {
		for _, bits := range []int{w.Bits, w.Bits + 1, 0, 24, 32, 128} {
			pool := impl.Pool{At: w, Bits: bits}
			checkLook(t, impl.Plan{Pools: []impl.Pool{pool}})
			checkLook(t, withPool(poolsOf(2, 2), pool))
			if impl.PlanOk(impl.Plan{Pools: []impl.Pool{pool}}) {
				t.Errorf("right with a wrong pool: %v", pool)
			}
		}
		block := impl.Block{At: w, Owner: "ann"}
		for _, s := range []string{"0.0.0.0/0>0", "0.0.0.0/12>32", "::/0>0", "::/108>128", "0.0.0.0/0>0 ::/0>0", "10.0.0.0/24>24"} {
			p := planOfTexts(t, s, "")
			p.Blocks = []impl.Block{block}
			if impl.PlanOk(p) {
				t.Errorf("right with a wrong block: %v", p)
			}
			checkLook(t, p)
		}
	}
}

// Every row of up to three pools, and every row of up to two blocks beneath two pools, of a small room: against a look at every two.
func TestPlanOkEveryRow(t *testing.T) {
	counts := map[bool]int{}
	look := func(p impl.Plan) {
		got := impl.PlanOk(p)
		if got != planRight(p) {
			t.Fatalf("PlanOk(%s) = %v", planTexts(p), got)
		}
		counts[got]++
	}
	for _, r := range []room{{narrow(0x0a000008), 0}, {wide(1, 0), 61}} {
		list, _ := r.parts()
		few := slices.DeleteFunc(slices.Clone(list), func(p impl.Prefix) bool { return numberOf(p.At).Cmp(numberOf(r.part(4, 0).At)) >= 0 })
		for _, a := range few {
			for _, b := range few {
				pools := []impl.Pool{{At: a, Bits: a.Bits}, {At: b, Bits: min(b.Bits+1, widthOf(b.At.Six))}}
				look(impl.Plan{Pools: pools})
				for _, c := range few {
					look(impl.Plan{Pools: append(slices.Clone(pools), impl.Pool{At: c, Bits: c.Bits})})
					look(impl.Plan{Pools: pools, Blocks: []impl.Block{{At: c, Owner: "ann"}}})
					for _, d := range few {
						look(impl.Plan{Pools: pools, Blocks: []impl.Block{{At: c, Owner: "ann"}, {At: d, Owner: "bob"}}})
					}
				}
			}
		}
	}
	if counts[true] < 50 || counts[false] < 1000 {
		t.Error("the rows are too much alike:", counts)
	}
}

// MaxPools pools and MaxBlocks blocks are right, one less too, one more is not: whatever else they are.
func TestPlanOkMost(t *testing.T) {
	for count, want := range map[int]bool{mostPools - 1: true, mostPools: true, mostPools + 1: false, 200: false} {
		if p := poolsOf(count, 4); impl.PlanOk(p) != want {
			t.Errorf("PlanOk of %d pools is %v", count, !want)
		}
	}
	for count, want := range map[int]bool{mostBlocks - 1: true, mostBlocks: true, mostBlocks + 1: false, 200: false} {
		p := filled(poolsOf(2, 10), 1, count)
		if impl.PlanOk(p) != want {
			t.Errorf("PlanOk of %d blocks is %v", count, !want)
		}
		checkLook(t, p)
	}
	p := poolsOf(mostPools, 10)
	for i := range p.Pools {
		p = filled(p, i, 3)
	}
	if len(p.Blocks) != mostBlocks || !impl.PlanOk(p) {
		t.Error("three blocks in each pool:", len(p.Blocks))
	}
	checkLook(t, p)
	checkLook(t, filled(poolsOf(mostPools, 10), 0, mostBlocks+1))
	checkLook(t, filled(poolsOf(mostPools+1, 10), mostPools, 1))
}

func TestAddPoolTable(t *testing.T) {
	three := "10.0.0.0/24>26 10.0.4.0/24>26 2001:db8::/32>48"
	for _, c := range []struct {
		pools, pool string
		code        int
		want        string
	}{
		{"", "10.0.0.0/24>26", impl.PlanGood, "10.0.0.0/24>26"},
		{"", "0.0.0.0/0>0", impl.PlanGood, "0.0.0.0/0>0"},
		{"", "::/0>20", impl.PlanGood, "::/0>20"},
		{"0.0.0.0/0>20", "::/0>0", impl.PlanGood, "0.0.0.0/0>20 ::/0>0"},
		{"::/0>0", "0.0.0.0/0>20", impl.PlanGood, "0.0.0.0/0>20 ::/0>0"},
		// Ahead of, between and behind those that are there.
		{three, "9.255.255.0/24>32", impl.PlanGood, "9.255.255.0/24>32 " + three},
		{three, "10.0.1.0/24>24", impl.PlanGood, "10.0.0.0/24>26 10.0.1.0/24>24 10.0.4.0/24>26 2001:db8::/32>48"},
		{three, "10.0.3.255/32>32", impl.PlanGood, "10.0.0.0/24>26 10.0.3.255/32>32 10.0.4.0/24>26 2001:db8::/32>48"},
		{three, "255.0.0.0/8>28", impl.PlanGood, "10.0.0.0/24>26 10.0.4.0/24>26 255.0.0.0/8>28 2001:db8::/32>48"},
		{three, "::/32>32", impl.PlanGood, "10.0.0.0/24>26 10.0.4.0/24>26 ::/32>32 2001:db8::/32>48"},
		{three, "8000::/16>36", impl.PlanGood, three + " 8000::/16>36"},
		// It is one of them, within one, around one, around several; the bits of its blocks do not count for that.
		{three, "10.0.0.0/24>26", impl.PlanOver, three},
		{three, "10.0.0.0/24>27", impl.PlanOver, three},
		{three, "10.0.0.128/25>26", impl.PlanOver, three},
		{three, "10.0.4.255/32>32", impl.PlanOver, three},
		{three, "10.0.4.0/23>26", impl.PlanOver, three},
		{three, "10.0.0.0/16>26", impl.PlanOver, three},
		{three, "0.0.0.0/0>20", impl.PlanOver, three},
		{three, "2001::/16>32", impl.PlanOver, three},
		{three, "2001:db8:ffff::/48>48", impl.PlanOver, three},
		{three, "::/0>0", impl.PlanOver, three},
		// Its bits are none for a pool; that is told ahead of what it overlaps.
		{three, "11.0.0.0/24>23", impl.PlanForm, three},
		{three, "11.0.0.0/24>33", impl.PlanForm, three},
		{three, "11.0.0.0/8>29", impl.PlanForm, three},
		{three, "11.0.0.0/8>28", impl.PlanGood, "10.0.0.0/24>26 10.0.4.0/24>26 11.0.0.0/8>28 2001:db8::/32>48"},
		{three, "fe80::/64>85", impl.PlanForm, three},
		{three, "fe80::/64>84", impl.PlanGood, three + " fe80::/64>84"},
		{three, "10.0.0.0/24>23", impl.PlanForm, three},
		{three, "10.0.0.0/24>33", impl.PlanForm, three},
		{three, "0.0.0.0/0>21", impl.PlanForm, three},
		{three, "2001:db8::/32>53", impl.PlanForm, three},
		{three, "2001:db8::/32>9223372036854775807", impl.PlanForm, three},
		{three, "2001:db8::/32>-9223372036854775808", impl.PlanForm, three},
	} {
		p, pool := planOfTexts(t, c.pools, ""), poolOfText(t, c.pool)
		got, code := checkAdd(t, p, pool)
		if code != c.code || planTexts(got) != c.want {
			t.Errorf("AddPool(%s, %s) = %s, %d, not %s, %d", c.pools, c.pool, planTexts(got), code, c.want, c.code)
		}
		checkLook(t, got)
	}
}

// Pools of every bits and every depth: what PlanOk of one pool is, AddPool to nothing takes.
func TestAddPoolAllBits(t *testing.T) {
	for _, at := range rightPrefixes() {
		for bits := -1; bits <= 129; bits++ {
			pool := impl.Pool{At: at, Bits: bits}
			want := bits >= at.Bits && bits <= widthOf(at.At.Six) && bits <= at.Bits+20
			got, code := impl.AddPool(impl.Plan{}, pool)
			if (code == impl.PlanGood) != want || (code == impl.PlanForm) == want || (len(got.Pools) == 1) != want {
				t.Fatalf("AddPool(nothing, %v) = %v, %d", pool, got, code)
			}
			if ok := impl.PlanOk(impl.Plan{Pools: []impl.Pool{pool}}); ok != want {
				t.Fatalf("PlanOk of %v is %v", pool, ok)
			}
		}
		for _, bits := range []int{math.MinInt, math.MinInt + at.Bits, math.MinInt + at.Bits + 20, math.MaxInt, math.MaxInt - 20, 1 << 32, 1<<32 + at.Bits} {
			if _, code := impl.AddPool(impl.Plan{}, impl.Pool{At: at, Bits: bits}); code != impl.PlanForm {
				t.Fatalf("AddPool(nothing, %v>%d) is %d", at, bits, code)
			}
		}
	}
}

// Twenty pools added in any order stand in the same one, and the next is one too many: ahead of overlapping, behind not being right.
func TestAddPoolMost(t *testing.T) {
	chance := rand.New(rand.NewSource(8))
	all := poolsOf(mostPools+1, 4)
	for i := range all.Pools {
		if i%2 == 1 {
			all.Pools[i].At.At = wide(i<<58, 0)
		}
	}
	for range 20 {
		chance.Shuffle(len(all.Pools), func(i, j int) { all.Pools[i], all.Pools[j] = all.Pools[j], all.Pools[i] })
		p := impl.Plan{}
		for i, pool := range all.Pools {
			q, code := checkAdd(t, p, pool)
			if want := i < mostPools; (code == impl.PlanGood) != want || (code == impl.PlanMany) == want {
				t.Fatalf("pool %d: %d", i, code)
			}
			p = q
		}
		if _, code := checkAdd(t, p, p.Pools[7]); code != impl.PlanMany {
			t.Error("too many, and one that is there:", code)
		}
		if _, code := checkAdd(t, p, impl.Pool{At: impl.Prefix{At: narrow(0)}, Bits: 0}); code != impl.PlanMany {
			t.Error("too many, and one around others:", code)
		}
		if _, code := checkAdd(t, p, impl.Pool{At: impl.Prefix{At: narrow(200 << 24), Bits: 8}, Bits: 29}); code != impl.PlanForm {
			t.Error("too many, and not right:", code)
		}
		q, code := checkDrop(t, p, p.Pools[11].At)
		if code != impl.PlanGood {
			t.Fatal("drop:", code)
		}
		if _, code = checkAdd(t, q, p.Pools[3]); code != impl.PlanOver {
			t.Error("one less, and one that is there:", code)
		}
		if again, code := checkAdd(t, q, p.Pools[11]); code != impl.PlanGood || !samePlan(again, p) {
			t.Error("dropped and added again:", code, planTexts(again))
		}
	}
}

func TestDropPoolTable(t *testing.T) {
	pools := "10.0.0.0/24>26 10.0.1.0/24>24 10.0.2.0/23>28 2001:db8::/32>48"
	blocks := "10.0.0.192/26=ann 10.0.2.0/28=bob"
	for _, c := range []struct {
		at   string
		code int
		want string
	}{
		{"10.0.1.0/24", impl.PlanGood, "10.0.0.0/24>26 10.0.2.0/23>28 2001:db8::/32>48"},
		{"2001:db8::/32", impl.PlanGood, "10.0.0.0/24>26 10.0.1.0/24>24 10.0.2.0/23>28"},
		{"10.0.0.0/24", impl.PlanUsed, pools},
		{"10.0.2.0/23", impl.PlanUsed, pools},
		// No such pool, though it is around one, a part of one, or a block: ahead of being used.
		{"10.0.0.0/23", impl.PlanNone, pools},
		{"10.0.0.0/25", impl.PlanNone, pools},
		{"10.0.0.128/25", impl.PlanNone, pools},
		{"10.0.0.192/26", impl.PlanNone, pools},
		{"10.0.2.0/24", impl.PlanNone, pools},
		{"10.0.2.0/28", impl.PlanNone, pools},
		{"10.0.0.0/22", impl.PlanNone, pools},
		{"0.0.0.0/0", impl.PlanNone, pools},
		{"10.0.1.0/25", impl.PlanNone, pools},
		{"10.0.4.0/24", impl.PlanNone, pools},
		{"2001:db8::/31", impl.PlanNone, pools},
		{"2001:db8::/48", impl.PlanNone, pools},
		{"::/0", impl.PlanNone, pools},
		{"::/24", impl.PlanNone, pools},
	} {
		got, code := checkDrop(t, planOfTexts(t, pools, blocks), prefixOfText(t, c.at))
		if code != c.code || planTexts(got) != c.want+" "+blocks {
			t.Errorf("DropPool(.., %s) = %s, %d, not %s, %d", c.at, planTexts(got), code, c.want, c.code)
		}
		checkLook(t, got)
	}
	if _, code := checkDrop(t, impl.Plan{}, prefixOfText(t, "10.0.0.0/24")); code != impl.PlanNone {
		t.Error("of an empty plan:", code)
	}
	if _, code := checkDrop(t, impl.Plan{}, impl.Prefix{}); code != impl.PlanNone {
		t.Error("the zero prefix, of an empty plan:", code)
	}
	if got, code := checkDrop(t, planOfTexts(t, "0.0.0.0/0>0", ""), impl.Prefix{}); code != impl.PlanGood || !samePlan(got, impl.Plan{}) {
		t.Error("the zero prefix:", got, code)
	}
}

// Numbers that are alike in both widths are not one pool, nor one block.
func TestPlansOfBothWidths(t *testing.T) {
	pools := "0.0.0.0/24>26 ::/24>26"
	p := planOfTexts(t, pools, "0.0.0.0/26=ann")
	if got, code := checkDrop(t, p, prefixOfText(t, "::/24")); code != impl.PlanGood || planTexts(got) != "0.0.0.0/24>26 0.0.0.0/26=ann" {
		t.Error(planTexts(got), code)
	}
	if _, code := checkDrop(t, p, prefixOfText(t, "0.0.0.0/24")); code != impl.PlanUsed {
		t.Error(code)
	}
	p, b, code := checkCarve(t, p, prefixOfText(t, "::/24"), "ann")
	if code != impl.PlanGood || b != prefixOfText(t, "::/26") || planTexts(p) != pools+" 0.0.0.0/26=ann ::/26=ann" {
		t.Error(planTexts(p), b, code)
	}
	q, code := checkFreed(t, p, prefixOfText(t, "0.0.0.0/26"), "ann")
	if code != impl.PlanGood || planTexts(q) != pools+" ::/26=ann" {
		t.Error(planTexts(q), code)
	}
	edges := []impl.Addr{narrow(0), narrow(63), narrow(64), wide(0, 0), wide(0, 63), wide(0, -1), wide(1<<38, 0), wide(1<<38-1, -1)}
	checkBlockOf(t, p, edges...)
	checkBlockOf(t, q, edges...)
	if u := impl.Usage(q); !slices.Equal(u, []int{0, 1}) {
		t.Error("usage:", u)
	}
}

// The last block of a pool is freed, then the pool can be dropped: not ahead of that.
func TestDropBehindTheLastFree(t *testing.T) {
	at := prefixOfText(t, "10.0.0.0/24")
	start := planOfTexts(t, "9.0.0.0/8>8 10.0.0.0/24>26 10.0.1.0/24>26", "9.0.0.0/8=zoe 10.0.1.0/26=ann")
	for _, order := range [][]int{{0, 1, 2, 3}, {3, 2, 1, 0}, {2, 0, 3, 1}} {
		p, blocks := start, []impl.Prefix{}
		for _, owner := range []string{"ann", "bob", "ann", "c"} {
			q, b, code := checkCarve(t, p, at, owner)
			if code != impl.PlanGood {
				t.Fatal("carve:", code)
			}
			p, blocks = q, append(blocks, b)
		}
		owners := []string{"ann", "bob", "ann", "c"}
		for _, i := range order {
			if _, code := checkDrop(t, p, at); code != impl.PlanUsed {
				t.Fatal("dropped while used:", code)
			}
			q, code := checkFreed(t, p, blocks[i], owners[i])
			if code != impl.PlanGood {
				t.Fatal("free:", code)
			}
			p = q
		}
		if !samePlan(p, start) {
			t.Error("all freed:", planTexts(p))
		}
		q, code := checkDrop(t, p, at)
		if code != impl.PlanGood || planTexts(q) != "9.0.0.0/8>8 10.0.1.0/24>26 9.0.0.0/8=zoe 10.0.1.0/26=ann" {
			t.Error("drop:", planTexts(q), code)
		}
		if _, _, code := checkCarve(t, q, at, "ann"); code != impl.PlanNone {
			t.Error("carved of what was dropped:", code)
		}
		if _, code := checkDrop(t, q, at); code != impl.PlanNone {
			t.Error("dropped twice:", code)
		}
	}
}

func TestCarveTable(t *testing.T) {
	pools := "10.0.0.0/24>26 10.0.1.0/24>24 10.0.2.0/24>32 2001:db8::/32>48 ffff::/16>17"
	for _, c := range []struct {
		blocks, pool string
		code         int
		want         string
	}{
		{"", "10.0.0.0/24", impl.PlanGood, "10.0.0.0/26"},
		{"10.0.0.0/26=ann", "10.0.0.0/24", impl.PlanGood, "10.0.0.64/26"},
		{"10.0.0.64/26=ann", "10.0.0.0/24", impl.PlanGood, "10.0.0.0/26"},
		{"10.0.0.0/26=ann 10.0.0.128/26=bob", "10.0.0.0/24", impl.PlanGood, "10.0.0.64/26"},
		{"10.0.0.0/26=ann 10.0.0.64/26=bob 10.0.0.128/26=bob", "10.0.0.0/24", impl.PlanGood, "10.0.0.192/26"},
		{"10.0.0.0/26=ann 10.0.0.64/26=bob 10.0.0.128/26=bob 10.0.0.192/26=bob", "10.0.0.0/24", impl.PlanFull, ""},
		// Blocks of other pools take nothing of it.
		{"10.0.1.0/24=ann 2001:db8::/48=ann", "10.0.0.0/24", impl.PlanGood, "10.0.0.0/26"},
		{"10.0.0.0/26=ann", "10.0.2.0/24", impl.PlanGood, "10.0.2.0/32"},
		{"10.0.2.0/32=ann 10.0.2.1/32=ann 10.0.2.3/32=ann", "10.0.2.0/24", impl.PlanGood, "10.0.2.2/32"},
		// The one block of a pool whose blocks have its own bits.
		{"", "10.0.1.0/24", impl.PlanGood, "10.0.1.0/24"},
		{"10.0.1.0/24=ann", "10.0.1.0/24", impl.PlanFull, ""},
		{"", "2001:db8::/32", impl.PlanGood, "2001:db8::/48"},
		{"2001:db8::/48=ann 2001:db8:1::/48=bob 2001:db8:ffff::/48=ann", "2001:db8::/32", impl.PlanGood, "2001:db8:2::/48"},
		{"ffff::/17=ann", "ffff::/16", impl.PlanGood, "ffff:8000::/17"},
		{"ffff::/17=ann ffff:8000::/17=bob", "ffff::/16", impl.PlanFull, ""},
		// No such pool: around one, a part of one, a block, full or not.
		{"", "10.0.0.0/23", impl.PlanNone, ""},
		{"", "10.0.0.0/25", impl.PlanNone, ""},
		{"", "10.0.0.0/26", impl.PlanNone, ""},
		{"10.0.0.0/26=ann", "10.0.0.0/26", impl.PlanNone, ""},
		{"10.0.1.0/24=ann", "10.0.1.0/25", impl.PlanNone, ""},
		{"", "10.0.3.0/24", impl.PlanNone, ""},
		{"", "::/0", impl.PlanNone, ""},
		{"", "0.0.0.0/0", impl.PlanNone, ""},
	} {
		want := impl.Prefix{}
		if c.want != "" {
			want = prefixOfText(t, c.want)
		}
		p := planOfTexts(t, pools, c.blocks)
		got, b, code := checkCarve(t, p, prefixOfText(t, c.pool), "new-1")
		if b != want || code != c.code {
			t.Errorf("Carve(%s, %s) = %v, %d, not %s, %d", c.blocks, c.pool, b, code, c.want, c.code)
		}
		if code == impl.PlanGood && !slices.Contains(got.Blocks, impl.Block{At: want, Owner: "new-1"}) || code != impl.PlanGood && !samePlan(got, p) {
			t.Errorf("Carve(%s, %s) = %s, %d", c.blocks, c.pool, planTexts(got), code)
		}
		checkLook(t, got)
	}
}

// A pool of 20 bits more is carved from its beginning on, also at the end of a width.
func TestCarveDeepPools(t *testing.T) {
	for _, s := range []string{"0.0.0.0/0>20", "0.0.0.0/12>32", "255.240.0.0/12>32", "10.0.0.0/8>28", "::/0>20", "2001:db8::/44>64", "2001:db8::/54>74", "::/108>128", "ffff:ffff:ffff:ffff:ffff:ffff:fff0::/108>128", "8000::/1>21"} {
		pool := poolOfText(t, s)
		p, code := checkAdd(t, impl.Plan{}, pool)
		if code != impl.PlanGood {
			t.Fatal("add:", s, code)
		}
		want := numberOf(pool.At.At)
		for i := range mostBlocks {
			q, b, code := checkCarve(t, p, pool.At, "ann")
			if code != impl.PlanGood || b.Bits != pool.Bits || numberOf(b.At).Cmp(want) != 0 {
				t.Fatal("carve:", s, i, b, code)
			}
			p, want = q, endOf(b)
		}
		if _, _, code := checkCarve(t, p, pool.At, "ann"); code != impl.PlanMany {
			t.Error("carve, too many:", s, code)
		}
		gap := p.Blocks[31].At
		if p, code = checkFreed(t, p, gap, "ann"); code != impl.PlanGood {
			t.Error("free:", s, code)
		}
		if _, b, code := checkCarve(t, p, pool.At, "bob"); code != impl.PlanGood || b != gap {
			t.Error("carve again:", s, b, code)
		}
	}
}

// Of MaxBlocks blocks the next is one too many: behind there being no such pool, ahead of the pool being full.
func TestCarveMost(t *testing.T) {
	p := planOfTexts(t, "10.0.0.0/24>24 10.0.1.0/24>24 10.1.0.0/16>22 11.0.0.0/16>22", "10.0.0.0/24=ann")
	full, empty, other := p.Pools[0].At, p.Pools[1].At, p.Pools[3].At
	p = filled(p, 2, mostBlocks-2)
	if _, _, code := checkCarve(t, p, full, "ann"); code != impl.PlanFull {
		t.Error("one less, full:", code)
	}
	p, b, code := checkCarve(t, p, other, "ann")
	if code != impl.PlanGood || b != prefixOfText(t, "11.0.0.0/22") || len(p.Blocks) != mostBlocks {
		t.Error("the last one:", b, code)
	}
	for _, at := range poolsAt(p) {
		got, _, code := checkCarve(t, p, at, "ann")
		if code != impl.PlanMany || !samePlan(got, p) {
			t.Error("one more:", at, code)
		}
		if _, _, code := checkCarve(t, p, at, "Ann"); code != impl.PlanForm {
			t.Error("one more, no owner:", at, code)
		}
	}
	for _, s := range []string{"10.0.2.0/24", "10.0.0.0/25", "10.1.0.0/22", "::/0"} {
		if _, _, code := checkCarve(t, p, prefixOfText(t, s), "ann"); code != impl.PlanNone {
			t.Error("one more, of no pool:", s, code)
		}
	}
	p, code = checkFreed(t, p, b, "ann")
	if code != impl.PlanGood {
		t.Error("free:", code)
	}
	if _, b, code = checkCarve(t, p, empty, "ann"); code != impl.PlanGood || b != empty {
		t.Error("carve again:", b, code)
	}
	checkLook(t, filled(poolsOf(mostPools, 10), 3, mostBlocks))
}

func TestFreeTable(t *testing.T) {
	pools := "10.0.0.0/24>26 10.0.1.0/24>24 2001:db8::/32>48"
	blocks := "10.0.0.0/26=ann 10.0.0.64/26=bob 10.0.0.192/26=ann 10.0.1.0/24=ann 2001:db8:7::/48=bob"
	for _, c := range []struct {
		at, owner string
		code      int
		want      string
	}{
		{"10.0.0.0/26", "ann", impl.PlanGood, "10.0.0.64/26=bob 10.0.0.192/26=ann 10.0.1.0/24=ann 2001:db8:7::/48=bob"},
		{"10.0.0.64/26", "bob", impl.PlanGood, "10.0.0.0/26=ann 10.0.0.192/26=ann 10.0.1.0/24=ann 2001:db8:7::/48=bob"},
		{"10.0.1.0/24", "ann", impl.PlanGood, "10.0.0.0/26=ann 10.0.0.64/26=bob 10.0.0.192/26=ann 2001:db8:7::/48=bob"},
		{"2001:db8:7::/48", "bob", impl.PlanGood, "10.0.0.0/26=ann 10.0.0.64/26=bob 10.0.0.192/26=ann 10.0.1.0/24=ann"},
		// Another's.
		{"10.0.0.0/26", "bob", impl.PlanNone, blocks},
		{"10.0.0.64/26", "ann", impl.PlanNone, blocks},
		{"10.0.0.0/26", "an", impl.PlanNone, blocks},
		{"10.0.0.0/26", "annn", impl.PlanNone, blocks},
		{"2001:db8:7::/48", "ann", impl.PlanNone, blocks},
		// No block: a free one, a pool, a part of a block, around blocks, outside.
		{"10.0.0.128/26", "ann", impl.PlanNone, blocks},
		{"10.0.0.0/24", "ann", impl.PlanNone, blocks},
		{"10.0.0.0/27", "ann", impl.PlanNone, blocks},
		{"10.0.0.0/25", "ann", impl.PlanNone, blocks},
		{"10.0.1.0/26", "ann", impl.PlanNone, blocks},
		{"10.0.2.0/26", "ann", impl.PlanNone, blocks},
		{"2001:db8::/48", "bob", impl.PlanNone, blocks},
		{"2001:db8:7::/49", "bob", impl.PlanNone, blocks},
		{"0.0.0.0/0", "ann", impl.PlanNone, blocks},
		{"::/0", "ann", impl.PlanNone, blocks},
		// No owner: ahead of there being no such block.
		{"10.0.0.0/26", "", impl.PlanForm, blocks},
		{"10.0.0.0/26", "Ann", impl.PlanForm, blocks},
		{"10.0.0.0/26", "abcdefghijklm", impl.PlanForm, blocks},
		{"10.0.0.0/26", "abcdefghijkl", impl.PlanNone, blocks},
		{"10.0.0.128/26", "", impl.PlanForm, blocks},
		{"10.0.9.0/26", "a b", impl.PlanForm, blocks},
	} {
		got, code := checkFreed(t, planOfTexts(t, pools, blocks), prefixOfText(t, c.at), c.owner)
		if code != c.code || planTexts(got) != pools+" "+c.want {
			t.Errorf("Free(.., %s, %q) = %s, %d, not %s, %d", c.at, c.owner, planTexts(got), code, c.want, c.code)
		}
		checkLook(t, got)
	}
	if _, code := checkFreed(t, impl.Plan{}, impl.Prefix{}, "ann"); code != impl.PlanNone {
		t.Error("of an empty plan:", code)
	}
}

func TestBlockOfTable(t *testing.T) {
	p := planOfTexts(t, "0.0.0.0/24>26 10.0.0.0/24>26 10.0.1.0/24>24 ::/32>48", "0.0.0.64/26=zoe 10.0.0.0/26=ann 10.0.0.128/26=bob 10.0.1.0/24=c ::/48=six")
	for _, c := range []struct {
		a     impl.Addr
		owner string
	}{
		{narrow(0x0a000000), "ann"}, {narrow(0x0a00003f), "ann"}, {narrow(0x0a000040), ""}, {narrow(0x0a00007f), ""},
		{narrow(0x0a000080), "bob"}, {narrow(0x0a0000bf), "bob"}, {narrow(0x0a0000c0), ""}, {narrow(0x0a0000ff), ""},
		{narrow(0x0a000100), "c"}, {narrow(0x0a0001ff), "c"}, {narrow(0x0a000200), ""}, {narrow(0x09ffffff), ""},
		{narrow(0), ""}, {narrow(63), ""}, {narrow(64), "zoe"}, {narrow(127), "zoe"}, {narrow(128), ""}, {narrow(lastNarrow), ""},
		{wide(0, 0), "six"}, {wide(0, 64), "six"}, {wide(0, 0x0a000000), "six"}, {wide(65535, -1), "six"}, {wide(65536, 0), ""}, {wide(-1, -1), ""},
	} {
		b, ok := impl.BlockOf(p, c.a)
		if ok != (c.owner != "") || b.Owner != c.owner {
			t.Errorf("BlockOf(.., %v) = %v, %v, not %q", c.a, b, ok, c.owner)
		}
		checkBlockOf(t, p, c.a)
		checkBlockOf(t, impl.Plan{}, c.a)
	}
	// An Addr that is not AddrOk is in no block, not even in the one that has the zero address.
	all := planOfTexts(t, "0.0.0.0/0>0 ::/0>0", "0.0.0.0/0=ann ::/0=bob")
	for _, a := range wrongAddrs() {
		if b, ok := impl.BlockOf(all, a); ok || b != (impl.Block{}) {
			t.Errorf("BlockOf(.., %v) = %v, %v", a, b, ok)
		}
	}
	for _, a := range risingAddrs() {
		if b, ok := impl.BlockOf(all, a); !ok || (b.Owner == "bob") != a.Six {
			t.Errorf("BlockOf(.., %v) = %v, %v", a, b, ok)
		}
	}
}

func TestUsageTable(t *testing.T) {
	for _, c := range []struct {
		pools, blocks string
		want          []int
	}{
		{"", "", nil},
		{"10.0.0.0/24>26", "", []int{0}},
		{"10.0.0.0/24>26", "10.0.0.64/26=ann", []int{1}},
		{"10.0.0.0/24>26 10.0.1.0/24>26 ::/0>0", "10.0.1.0/26=ann 10.0.1.192/26=bob", []int{0, 2, 0}},
		{"0.0.0.0/0>2 ::/0>0", "0.0.0.0/2=a 64.0.0.0/2=a 128.0.0.0/2=a 192.0.0.0/2=a ::/0=a", []int{4, 1}},
		// Not right: nothing, however many pools.
		{"10.0.0.0/24>26 10.0.0.0/24>26", "", nil},
		{"10.0.0.0/24>26", "10.0.0.64/26=", nil},
		{"10.0.0.0/24>26", "10.0.1.0/26=ann", nil},
	} {
		if got := impl.Usage(planOfTexts(t, c.pools, c.blocks)); !slices.Equal(got, c.want) {
			t.Errorf("Usage(%s; %s) = %v, not %v", c.pools, c.blocks, got, c.want)
		}
	}
}

// wrongPlans are not PlanOk, each by one thing alone.
func wrongPlans(t *testing.T) map[string]impl.Plan {
	t.Helper()
	pools, blocks := "10.0.0.0/24>26 10.0.1.0/24>24 2001:db8::/32>48", "10.0.0.0/26=ann 10.0.0.64/26=bob"
	plans := map[string]impl.Plan{
		"pools that do not rise":        planOfTexts(t, "10.0.1.0/24>24 10.0.0.0/24>26", blocks),
		"widths that do not rise":       planOfTexts(t, "2001:db8::/32>48 10.0.0.0/24>26", blocks),
		"a pool twice":                  planOfTexts(t, "10.0.0.0/24>26 10.0.0.0/24>26", blocks),
		"a pool with other bits, too":   planOfTexts(t, "10.0.0.0/24>26 10.0.0.0/24>28", blocks),
		"a pool in another":             planOfTexts(t, "10.0.0.0/24>26 10.0.0.128/25>26", blocks),
		"a pool around others":          planOfTexts(t, "10.0.0.0/16>26 10.0.1.0/24>24", blocks),
		"a pool of 21 bits more":        planOfTexts(t, "10.0.0.0/24>26 11.0.0.0/8>29", blocks),
		"a pool of fewer bits":          planOfTexts(t, "10.0.0.0/24>26 11.0.0.0/8>7", blocks),
		"a pool of more than its width": planOfTexts(t, "10.0.0.0/24>26 11.0.0.0/24>33", blocks),
		"blocks that do not rise":       planOfTexts(t, pools, "10.0.0.64/26=bob 10.0.0.0/26=ann"),
		"a block twice":                 planOfTexts(t, pools, "10.0.0.0/26=ann 10.0.0.0/26=ann"),
		"a block of two":                planOfTexts(t, pools, "10.0.0.0/26=ann 10.0.0.0/26=bob"),
		"a block in no pool":            planOfTexts(t, pools, blocks+" 10.0.2.0/26=ann"),
		"blocks, but no pools":          planOfTexts(t, "", blocks),
		"a block of more bits":          planOfTexts(t, pools, blocks+" 10.0.0.128/27=ann"),
		"a block of fewer bits":         planOfTexts(t, pools, blocks+" 10.0.0.128/25=ann"),
		"a block with another's bits":   planOfTexts(t, pools, blocks+" 10.0.1.0/26=ann"),
		"a block with no owner":         planOfTexts(t, pools, blocks+" 10.0.0.128/26="),
		"a block with a wrong owner":    planOfTexts(t, pools, blocks+" 10.0.0.128/26=A"),
		"a block with a long owner":     planOfTexts(t, pools, blocks+" 10.0.0.128/26=abcdefghijklm"),
		"too many pools":                poolsOf(mostPools+1, 4),
		"too many blocks":               filled(poolsOf(3, 10), 1, mostBlocks+1),
		"too many of both":              filled(poolsOf(300, 10), 1, 900),
	}
	wrong := planOfTexts(t, pools, blocks)
	wrong.Pools[1].At.At = narrow(0x0a000101)
	plans["a pool that is no prefix"] = wrong
	wrong = planOfTexts(t, pools, blocks)
	wrong.Pools[2].At.At = impl.Addr{Hi: 1}
	plans["a pool at no address"] = wrong
	wrong = planOfTexts(t, pools, blocks)
	wrong.Blocks[1].At.At = narrow(0x0a000041)
	plans["a block that is no prefix"] = wrong
	wrong = planOfTexts(t, "0.0.0.0/24>26 ::/0>0", "")
	wrong.Blocks = []impl.Block{{At: impl.Prefix{At: narrow(-1), Bits: 26}, Owner: "ann"}}
	plans["a block at no address"] = wrong
	return plans
}

// Of a plan that is not right PlanForm and the plan are told, whatever else could be.
func TestWrongPlans(t *testing.T) {
	for name, p := range wrongPlans(t) {
		if impl.PlanOk(p) {
			t.Fatal("right:", name)
		}
		checkLook(t, p)
		if u := impl.Usage(p); len(u) != 0 {
			t.Error("Usage:", name, u)
		}
		ats := slices.Concat(poolsAt(p), blocksAt(p), prefixesOfTexts(t, "10.0.0.0/24 10.9.0.0/16 ::/0"), wrongPrefixes()[:3])
		for _, at := range ats {
			if b, ok := impl.BlockOf(p, at.At); ok || b != (impl.Block{}) {
				t.Error("BlockOf:", name, at.At, b)
			}
			for _, bits := range []int{at.Bits, at.Bits - 1} {
				if got, code := checkAdd(t, p, impl.Pool{At: at, Bits: bits}); code != impl.PlanForm || !samePlan(got, p) {
					t.Error("AddPool:", name, at, code)
				}
			}
			if got, code := checkDrop(t, p, at); code != impl.PlanForm || !samePlan(got, p) {
				t.Error("DropPool:", name, at, code)
			}
			for _, owner := range []string{"ann", "bob", "Ann"} {
				if got, b, code := checkCarve(t, p, at, owner); code != impl.PlanForm || b != (impl.Prefix{}) || !samePlan(got, p) {
					t.Error("Carve:", name, at, b, code)
				}
				if got, code := checkFreed(t, p, at, owner); code != impl.PlanForm || !samePlan(got, p) {
					t.Error("Free:", name, at, code)
				}
			}
		}
	}
}

// An argument that is not as told is PlanForm beside every right plan: ahead of there being too many, none, or no room.
func TestWrongArguments(t *testing.T) {
	plans := []impl.Plan{
		{},
		planOfTexts(t, "10.0.0.0/24>26", ""),
		planOfTexts(t, "0.0.0.0/0>0 ::/0>0", "0.0.0.0/0=ann ::/0=ann"),
		poolsOf(mostPools, 4),
		filled(poolsOf(2, 10), 0, mostBlocks),
		filled(poolsOf(mostPools, 10), 0, mostBlocks),
	}
	for _, p := range plans {
		checkLook(t, p)
		for _, w := range wrongPrefixes() {
			for _, bits := range []int{w.Bits, 0, 8, 32, 128} {
				if _, code := checkAdd(t, p, impl.Pool{At: w, Bits: bits}); code != impl.PlanForm {
					t.Error("AddPool:", w, bits, code)
				}
			}
			if _, code := checkDrop(t, p, w); code != impl.PlanForm {
				t.Error("DropPool:", w, code)
			}
			for _, owner := range []string{"ann", ""} {
				if _, _, code := checkCarve(t, p, w, owner); code != impl.PlanForm {
					t.Error("Carve:", w, code)
				}
				if _, code := checkFreed(t, p, w, owner); code != impl.PlanForm {
					t.Error("Free:", w, code)
				}
			}
		}
		for _, at := range slices.Concat(poolsAt(p), blocksAt(p), prefixesOfTexts(t, "10.0.0.0/26 11.0.0.0/24 ::/0")) {
			for _, owner := range []string{"", "A", "a`", "a{", "a/", "a:", "a,", "a.", " ", "abcdefghijklm", "ä", "\x00"} {
				if _, _, code := checkCarve(t, p, at, owner); code != impl.PlanForm {
					t.Error("Carve:", at, owner, code)
				}
				if _, code := checkFreed(t, p, at, owner); code != impl.PlanForm {
					t.Error("Free:", at, owner, code)
				}
			}
		}
	}
}

// Owners of 1 and of MaxOwner bytes have their blocks, and no one else frees them.
func TestOwnersKeepTheirBlocks(t *testing.T) {
	at := prefixOfText(t, "10.0.0.0/24")
	p := planOfTexts(t, "10.0.0.0/24>28", "")
	owners := []string{"a", "z", "0", "9", "-", "abcdefghijkl", "abcdefghijk", "------------", "012345678901", "a"}
	for _, owner := range owners {
		q, _, code := checkCarve(t, p, at, owner)
		if code != impl.PlanGood {
			t.Fatal("carve:", owner, code)
		}
		p = q
	}
	for i, b := range p.Blocks {
		if b.Owner != owners[i] {
			t.Error("block of another:", b)
		}
		for _, owner := range owners {
			want := impl.PlanNone
			if owner == b.Owner {
				want = impl.PlanGood
			}
			if _, code := checkFreed(t, p, b.At, owner); code != want {
				t.Error("free:", b, owner, code)
			}
		}
	}
}

// Whatever was carved of a plan, it is the first free block by a search with big numbers; freed, the plan is what it was.
func TestCarvedIsFirstFreeAndFreedIsAsBefore(t *testing.T) {
	chance := rand.New(rand.NewSource(9))
	carved, full := 0, 0
	for range 400 {
		p := somePlan(chance)
		checkLook(t, p)
		for _, pool := range p.Pools {
			used := slices.DeleteFunc(blocksAt(p), func(b impl.Prefix) bool { return !lies(b, pool.At) })
			want, ok := leastFree(pool.At, used, pool.Bits)
			got, b, code := checkCarve(t, p, pool.At, "newcomer")
			if ok != (code == impl.PlanGood) || b != want {
				t.Fatalf("Carve(%s, %v) = %v, %d, not %v", planTexts(p), pool, b, code, want)
			}
			if !ok {
				full++
				continue
			}
			carved++
			if back, code := checkFreed(t, got, b, "newcomer"); code != impl.PlanGood || !samePlan(back, p) {
				t.Fatalf("Free(%s, %v) = %s, %d", planTexts(got), b, planTexts(back), code)
			}
			if _, code := checkFreed(t, got, b, "other"); code != impl.PlanNone {
				t.Fatalf("freed by another: %d", code)
			}
		}
	}
	if carved < 1000 || full < 100 {
		t.Error("the plans are too much alike:", carved, full)
	}
}

// somePlan is a right plan of up to ten pools of both widths, each with some of its first blocks.
func somePlan(chance *rand.Rand) impl.Plan {
	p := impl.Plan{}
	for range 1 + chance.Intn(12) {
		six := chance.Intn(2) == 0
		bits := 1 + chance.Intn(widthOf(six))
		at := prefixAt(addrOfNumber(six, new(big.Int).Rand(chance, lastNumber(six))), bits)
		deeper := chance.Intn(4)
		if chance.Intn(3) == 0 {
			deeper = chance.Intn(mostDeeper + 1)
		}
		pool := impl.Pool{At: at, Bits: min(bits+deeper, widthOf(six))}
		if !meetsOne(at, poolsAt(p)) && len(p.Pools) < 10 {
			p = withSomeBlocks(chance, withPool(p, pool), pool)
		}
	}
	return p
}

func withSomeBlocks(chance *rand.Rand, p impl.Plan, pool impl.Pool) impl.Plan {
	share := 1 + chance.Intn(3)
	b := impl.Prefix{At: pool.At.At, Bits: pool.Bits}
	for range min(5, 1<<(pool.Bits-pool.At.Bits)) {
		if share == 3 || chance.Intn(3) < share {
			p = withBlock(p, impl.Block{At: b, Owner: []string{"ann", "bob", "c", "abcdefghijkl"}[chance.Intn(4)]})
		}
		b.At = addrOfNumber(b.At.Six, endOf(b))
	}
	return p
}

// Carved one by one and freed in any order, a plan is what it was; what is freed first is carved first again, if nothing less is free.
func TestCarvedAndFreedInAnyOrder(t *testing.T) {
	chance := rand.New(rand.NewSource(10))
	for range 60 {
		start := somePlan(chance)
		p, mine := start, []impl.Block{}
		for range 40 {
			pool := start.Pools[chance.Intn(len(start.Pools))].At
			owner := "mine-" + strconv.Itoa(chance.Intn(3))
			q, b, code := checkCarve(t, p, pool, owner)
			if code == impl.PlanGood {
				mine = append(mine, impl.Block{At: b, Owner: owner})
			}
			p = q
		}
		chance.Shuffle(len(mine), func(i, j int) { mine[i], mine[j] = mine[j], mine[i] })
		for _, b := range mine {
			q, code := checkFreed(t, p, b.At, b.Owner)
			if code != impl.PlanGood {
				t.Fatal("free:", b, code)
			}
			place := slices.IndexFunc(p.Pools, func(pool impl.Pool) bool { return lies(b.At, pool.At) })
			if _, again, code := checkCarve(t, q, p.Pools[place].At, "z"); code != impl.PlanGood || isBehind(b.At, again) {
				t.Fatal("carve again:", b, again, code)
			}
			if _, code := checkFreed(t, q, b.At, b.Owner); code != impl.PlanNone {
				t.Fatal("freed twice:", b, code)
			}
			p = q
		}
		if !samePlan(p, start) {
			t.Fatalf("%s became %s", planTexts(start), planTexts(p))
		}
	}
}

// walker goes on from plan to plan by any calls, each held against the plain search.
type walker struct {
	chance *rand.Rand
	parts  []impl.Prefix
	plan   impl.Plan
	seen   map[string]int
}

func (w *walker) somePrefix() impl.Prefix {
	known := slices.Concat(poolsAt(w.plan), blocksAt(w.plan))
	switch n := w.chance.Intn(20); {
	case n == 0:
		return wrongPrefixes()[w.chance.Intn(len(wrongPrefixes()))]
	case n < 4 || len(known) == 0:
		return w.parts[w.chance.Intn(len(w.parts))]
	}
	return known[w.chance.Intn(len(known))]
}

func (w *walker) somePool() impl.Pool {
	at := w.parts[w.chance.Intn(len(w.parts))]
	if w.chance.Intn(20) == 0 {
		at = w.somePrefix()
	}
	bits := min(at.Bits+w.chance.Intn(5), widthOf(at.At.Six))
	if w.chance.Intn(20) == 0 {
		bits = at.Bits + []int{-1, 19, 20, 21}[w.chance.Intn(4)]
	}
	return impl.Pool{At: at, Bits: bits}
}

func (w *walker) someOwner() string {
	if w.chance.Intn(30) == 0 {
		return []string{"", "Ann", "abcdefghijklm"}[w.chance.Intn(3)]
	}
	return []string{"ann", "bob"}[w.chance.Intn(2)]
}

// step tells what was called and which code it answered; weights say how often pools and blocks come and go.
func (w *walker) step(t *testing.T, weights [4]int) {
	t.Helper()
	n := w.chance.Intn(weights[0] + weights[1] + weights[2] + weights[3])
	what, code := "", 0
	switch {
	case n < weights[0]:
		what = "add"
		w.plan, code = checkAdd(t, w.plan, w.somePool())
	case n < weights[0]+weights[1]:
		what = "drop"
		w.plan, code = checkDrop(t, w.plan, w.somePrefix())
	case n < weights[0]+weights[1]+weights[2]:
		what = "carve"
		at := w.somePrefix()
		if len(w.plan.Pools) > 0 && w.chance.Intn(4) > 0 {
			at = w.plan.Pools[w.chance.Intn(len(w.plan.Pools))].At
		}
		w.plan, _, code = checkCarve(t, w.plan, at, w.someOwner())
	default:
		what = "free"
		w.plan, code = checkFreed(t, w.plan, w.somePrefix(), w.someOwner())
	}
	w.seen[fmt.Sprint(what, " ", code)]++
	if !impl.PlanOk(w.plan) {
		t.Fatalf("no plan any more, behind %s: %s", what, planTexts(w.plan))
	}
}

func TestPlansMovedByAnyCalls(t *testing.T) {
	seen := map[string]int{}
	parts := []impl.Prefix{}
	for _, r := range []room{{narrow(0), 4}, {narrow(0x0a000000), 8}, {narrow(lastNarrow - 0x7f), 4}, {wide(0, 0), 4}, {wide(1<<61, 0), 61}, {wide(-1, -8), 0}} {
		list, _ := r.parts()
		parts = append(parts, list...)
		for cell := range 1 << cellDepth {
			parts = append(parts, r.part(cell, 0), r.part(cell, 0))
		}
	}
	for seed := range 40 {
		w := &walker{chance: rand.New(rand.NewSource(int64(seed))), parts: parts, seen: seen}
		for i := range 300 {
			weights := [4]int{4, 1, 6, 1}
			switch {
			case i > 220:
				weights = [4]int{2, 3, 4, 6}
			case seed%2 == 1:
				weights = [4]int{5, 1, 18, 1}
			}
			w.step(t, weights)
			if i%10 == 0 {
				checkLook(t, w.plan)
			}
		}
	}
	for _, s := range []string{"add 0", "add 1", "add 2", "add 3", "drop 0", "drop 1", "drop 4", "drop 6", "carve 0", "carve 1", "carve 2", "carve 4", "carve 5", "free 0", "free 1", "free 4"} {
		if seen[s] < 20 {
			t.Errorf("hardly ever seen: %s: %d", s, seen[s])
		}
	}
	if len(seen) != 16 {
		t.Error("codes that are none of a call's:", seen)
	}
}

// What was answered stays, whatever happens to what was handed in, and a second call answers the same.
func TestPlansStayApart(t *testing.T) {
	pools, blocks := "10.0.0.0/24>26 10.0.1.0/24>24 11.0.0.0/24>24", "10.0.0.0/26=ann 10.0.0.64/26=bob 10.0.1.0/24=ann"
	at, full, empty := prefixOfText(t, "10.0.0.0/24"), prefixOfText(t, "10.0.1.0/24"), prefixOfText(t, "11.0.0.0/24")
	block := prefixOfText(t, "10.0.0.64/26")
	for name, call := range map[string]func(impl.Plan) (impl.Plan, int){
		"add":         func(p impl.Plan) (impl.Plan, int) { return impl.AddPool(p, poolOfText(t, "10.0.2.0/24>24")) },
		"add over":    func(p impl.Plan) (impl.Plan, int) { return impl.AddPool(p, poolOfText(t, "10.0.0.0/16>24")) },
		"add form":    func(p impl.Plan) (impl.Plan, int) { return impl.AddPool(p, poolOfText(t, "12.0.0.0/16>8")) },
		"drop":        func(p impl.Plan) (impl.Plan, int) { return impl.DropPool(p, empty) },
		"drop used":   func(p impl.Plan) (impl.Plan, int) { return impl.DropPool(p, full) },
		"drop none":   func(p impl.Plan) (impl.Plan, int) { return impl.DropPool(p, block) },
		"drop form":   func(p impl.Plan) (impl.Plan, int) { return impl.DropPool(p, impl.Prefix{Bits: -1}) },
		"carve":       func(p impl.Plan) (impl.Plan, int) { q, _, c := impl.Carve(p, at, "c"); return q, c },
		"carve full":  func(p impl.Plan) (impl.Plan, int) { q, _, c := impl.Carve(p, full, "c"); return q, c },
		"carve none":  func(p impl.Plan) (impl.Plan, int) { q, _, c := impl.Carve(p, block, "c"); return q, c },
		"carve form":  func(p impl.Plan) (impl.Plan, int) { q, _, c := impl.Carve(p, at, ""); return q, c },
		"free":        func(p impl.Plan) (impl.Plan, int) { return impl.Free(p, block, "bob") },
		"free none":   func(p impl.Plan) (impl.Plan, int) { return impl.Free(p, block, "ann") },
		"free form":   func(p impl.Plan) (impl.Plan, int) { return impl.Free(p, block, "") },
		"empty lists": func(p impl.Plan) (impl.Plan, int) { return impl.Free(impl.Plan{Pools: p.Pools[:0]}, block, "bob") },
	} {
		given := planOfTexts(t, pools, blocks)
		first, code := call(given)
		kept := clonePlan(first)
		second, again := call(given)
		if code != again || !samePlan(second, kept) {
			t.Error("called twice:", name, code, again)
		}
		scribble(second)
		if !samePlan(first, kept) {
			t.Error("two answers share memory:", name)
		}
		scribble(given)
		if !samePlan(first, kept) {
			t.Error("changed with what was handed in:", name)
		}
	}
	p := planOfTexts(t, pools, blocks)
	u := impl.Usage(p)
	clear(u[:cap(u)])
	if again := impl.Usage(p); !slices.Equal(again, []int{2, 1, 0}) {
		t.Error("usage:", again)
	}
}
