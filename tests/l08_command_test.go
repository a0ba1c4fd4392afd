package tests

import (
	"bytes"
	"encoding/binary"
	"encoding/hex"
	"fmt"
	"math"
	"math/rand"
	"regexp"
	"slices"
	"strconv"
	"strings"
	"testing"
	"unsafe"

	"loop.example/g00113/impl"
)

const (
	lastSession = 1000000
	mostBits    = 128
	fieldNames  = "session seq now at bits host owner token span"
)

// A kindForm is a kind as the document gives it: its number, its word, and the names of its fields in the order of the text.
type kindForm struct {
	kind   int
	word   string
	fields string
}

func kindForms() []kindForm {
	return []kindForm{
		{1, "open", "now"},
		{2, "close", "session now"},
		{3, "add-pool", "session seq now at bits"},
		{4, "drop-pool", "session seq now at"},
		{5, "carve", "session seq now at owner"},
		{6, "free", "session seq now at owner"},
		{7, "grant", "session seq now at owner span"},
		{8, "take", "session seq now host owner span"},
		{9, "renew", "session seq now host token span"},
		{10, "release", "session seq now host token"},
		{11, "time", "now"},
	}
}

func formOf(kind int) (kindForm, bool) {
	for _, f := range kindForms() {
		if f.kind == kind {
			return f, true
		}
	}
	return kindForm{}, false
}

func (f kindForm) has(name string) bool {
	return slices.Contains(strings.Fields(f.fields), name)
}

// withField is c in which the field of this name is value, which has the field's type.
func withField(c impl.Command, name string, value any) impl.Command {
	switch name {
	case "session":
		c.Session = value.(int)
	case "seq":
		c.Seq = value.(int)
	case "now":
		c.Now = value.(int)
	case "at":
		c.At = value.(impl.Prefix)
	case "bits":
		c.Bits = value.(int)
	case "host":
		c.Host = value.(impl.Addr)
	case "owner":
		c.Owner = value.(string)
	case "token":
		c.Token = value.(int)
	case "span":
		c.Span = value.(int)
	default:
		panic("no field: " + name)
	}
	return c
}

func valueOf(c impl.Command, name string) any {
	return map[string]any{
		"session": c.Session, "seq": c.Seq, "now": c.Now, "at": c.At, "bits": c.Bits,
		"host": c.Host, "owner": c.Owner, "token": c.Token, "span": c.Span,
	}[name]
}

func zeroOf(name string) any {
	return valueOf(impl.Command{}, name)
}

// fieldRight is asked of a field that the command's kind has.
func fieldRight(c impl.Command, name string) bool {
	switch name {
	case "session":
		return isWithin(c.Session, 1, lastSession)
	case "seq":
		return isWithin(c.Seq, 1, lastSeq)
	case "now":
		return isWithin(c.Now, 0, lastTime)
	case "at":
		return isPrefix(c.At)
	case "bits":
		return isWithin(c.Bits, 0, mostBits)
	case "host":
		return isAddr(c.Host)
	case "owner":
		return ownerForm.MatchString(c.Owner) && len(c.Owner) <= mostOwner
	case "token":
		return isWithin(c.Token, 1, lastToken)
	case "span":
		return isWithin(c.Span, 1, mostSpan)
	}
	panic("no field: " + name)
}

func commandRight(c impl.Command) bool {
	form, ok := formOf(c.Kind)
	if !ok {
		return false
	}
	for _, name := range strings.Fields(fieldNames) {
		if form.has(name) && !fieldRight(c, name) || !form.has(name) && valueOf(c, name) != zeroOf(name) {
			return false
		}
	}
	return true
}

// fieldText is what stands behind the name of a field, also of one that is wrong.
func fieldText(c impl.Command, name string) string {
	switch name {
	case "at":
		return netText(netOf(c.At.At)) + "/" + strconv.Itoa(c.At.Bits)
	case "host":
		return netText(netOf(c.Host))
	}
	return fmt.Sprint(valueOf(c, name))
}

// partText is a field with its name.
func partText(c impl.Command, name string) string {
	return name + "=" + fieldText(c, name)
}

// textAny is how c would be written, right or not: with the fields of its kind, and with those that it must not have and has.
func textAny(c impl.Command) string {
	form, ok := formOf(c.Kind)
	if !ok {
		form.word = "kind" + strconv.Itoa(c.Kind)
	}
	parts := []string{form.word}
	for _, name := range strings.Fields(fieldNames) {
		if form.has(name) || valueOf(c, name) != zeroOf(name) {
			parts = append(parts, partText(c, name))
		}
	}
	return strings.Join(parts, " ")
}

func textWanted(c impl.Command) string {
	if !commandRight(c) {
		return ""
	}
	return textAny(c)
}

func addrBytes(a impl.Addr) []byte {
	if !a.Six {
		return binary.BigEndian.AppendUint32([]byte{4}, uint32(a.Lo))
	}
	b := binary.BigEndian.AppendUint64([]byte{6}, uint64(a.Hi))
	return binary.BigEndian.AppendUint64(b, uint64(a.Lo))
}

// segments are c's bytes one by one, right or not: each a number, an address, or a text (the owner's, at the place 8).
func segments(c impl.Command) [][]byte {
	return [][]byte{
		numBytes(c.Kind), numBytes(c.Session), numBytes(c.Seq), numBytes(c.Now),
		addrBytes(c.At.At), numBytes(c.At.Bits), numBytes(c.Bits), addrBytes(c.Host),
		append(numBytes(len(c.Owner)), c.Owner...), numBytes(c.Token), numBytes(c.Span),
	}
}

func bytesAny(c impl.Command) []byte {
	return slices.Concat(segments(c)...)
}

func bytesWanted(c impl.Command) []byte {
	if !commandRight(c) {
		return nil
	}
	return bytesAny(c)
}

// commandOfBytes reads what stands in b, and asks whether it is right and goes to the end.
func commandOfBytes(b []byte) (impl.Command, bool) {
	c, at, whole := impl.Command{}, 0, true
	num := func() (n int) {
		ok := false
		n, at, ok = numAt(b, at)
		whole = whole && ok
		return n
	}
	addr := func() (a impl.Addr) {
		ok := false
		a, at, ok = addrAt(b, at)
		whole = whole && ok
		return a
	}
	c.Kind = num()
	c.Session = num()
	c.Seq = num()
	c.Now = num()
	c.At.At = addr()
	c.At.Bits = num()
	c.Bits = num()
	c.Host = addr()
	owner, next, ok := textAt(b, at)
	c.Owner, at, whole = owner, next, whole && ok
	c.Token = num()
	c.Span = num()
	if !whole || at != len(b) || !commandRight(c) {
		return impl.Command{}, false
	}
	return c, true
}

var textForms = formsOfTexts()

// formsOfTexts have for each kind the one row that its texts may be; the bounds are asked for besides.
func formsOfTexts() map[int]*regexp.Regexp {
	forms := map[int]*regexp.Regexp{}
	for _, f := range kindForms() {
		form := f.word
		for _, name := range strings.Fields(f.fields) {
			switch name {
			case "at", "host":
				form += " " + name + "=([0-9a-f.:/]+)"
			case "owner":
				form += " owner=([a-z0-9-]+)"
			default:
				form += " " + name + "=(0|[1-9][0-9]*)"
			}
		}
		forms[f.kind] = regexp.MustCompile(`\A` + form + `\z`)
	}
	return forms
}

func commandOfText(s string) (impl.Command, bool) {
	for _, f := range kindForms() {
		values := textForms[f.kind].FindStringSubmatch(s)
		if values == nil {
			continue
		}
		c := impl.Command{Kind: f.kind}
		for i, name := range strings.Fields(f.fields) {
			value, ok := fieldOfText(name, values[i+1])
			if !ok {
				return impl.Command{}, false
			}
			c = withField(c, name, value)
		}
		if textWanted(c) != s {
			return impl.Command{}, false
		}
		return c, true
	}
	return impl.Command{}, false
}

func fieldOfText(name string, s string) (any, bool) {
	switch name {
	case "at":
		return impl.ParsePrefix(s)
	case "host":
		return impl.ParseAddr(s)
	case "owner":
		return s, true
	}
	n, err := strconv.Atoi(s)
	return n, err == nil
}

// checkBytes hands b in with spare room behind it that would go on with it, and writes over all of it then.
func checkBytes(t *testing.T, b []byte) (impl.Command, bool) {
	t.Helper()
	kept := slices.Clone(b)
	given := roomy(b, []byte{1, 0, 0})
	got, ok := impl.GetCommand(given)
	room := given[:len(b)+3]
	if !bytes.Equal(room[:len(b)], kept) || !bytes.Equal(room[len(b):], []byte{1, 0, 0}) {
		t.Fatalf("GetCommand changed %x, or what stands behind: %x", kept, room)
	}
	for i := range room {
		room[i] = 'x'
	}
	if want, good := commandOfBytes(kept); got != want || ok != good {
		t.Fatalf("GetCommand(%x) = %v, %v, not %v, %v", kept, got, ok, want, good)
	}
	return got, ok
}

// checkText asks for the owner's memory too: it must not be a piece of the text that was handed in.
func checkText(t *testing.T, s string) (impl.Command, bool) {
	t.Helper()
	given := strings.Clone(s)
	got, ok := impl.ParseCommand(given)
	if want, good := commandOfText(s); got != want || ok != good {
		t.Fatalf("ParseCommand(%q) = %v, %v, not %v, %v", s, got, ok, want, good)
	}
	if given != s || isPieceOf(got.Owner, given) {
		t.Fatalf("ParseCommand(%q) answers its memory", s)
	}
	return got, ok
}

func isPieceOf(s string, all string) bool {
	if s == "" {
		return false
	}
	at := uintptr(unsafe.Pointer(unsafe.StringData(s)))
	from := uintptr(unsafe.Pointer(unsafe.StringData(all)))
	return at >= from && at < from+uintptr(len(all))
}

// checkCommand holds all that is asked of a command against the above; its bytes and its text come back just if it is right.
func checkCommand(t *testing.T, c impl.Command) bool {
	t.Helper()
	right := commandRight(c)
	if impl.CommandOk(c) != right {
		t.Fatalf("CommandOk(%v) = %v", c, !right)
	}
	b := impl.PutCommand(c)
	if !bytes.Equal(b, bytesWanted(c)) {
		t.Fatalf("PutCommand(%v) = %x, not %x", c, b, bytesWanted(c))
	}
	s := impl.CommandText(c)
	if s != textWanted(c) {
		t.Fatalf("CommandText(%v) = %q, not %q", c, s, textWanted(c))
	}
	if x, ok := checkBytes(t, b); ok != right || right && x != c {
		t.Fatalf("GetCommand of PutCommand of %v = %v, %v", c, x, ok)
	}
	if x, ok := checkText(t, s); ok != right || right && x != c {
		t.Fatalf("ParseCommand of CommandText of %v = %v, %v", c, x, ok)
	}
	if !right {
		checkBytes(t, bytesAny(c))
		checkText(t, textAny(c))
	}
	return right
}

// plainValue is one of a field that is right and not zero.
func plainValue(name string) any {
	return map[string]any{
		"session": 3, "seq": 300, "now": 70000, "at": prefixAt(narrow(0x0a000000), 24), "bits": 26,
		"host": narrow(0x0a000001), "owner": "bob", "token": 4, "span": 20,
	}[name]
}

func plainCommand(f kindForm) impl.Command {
	c := impl.Command{Kind: f.kind}
	for _, name := range strings.Fields(f.fields) {
		c = withField(c, name, plainValue(name))
	}
	return c
}

// wideCommand has addresses of 128 bits where plainCommand has those of 32, and other values besides.
func wideCommand(f kindForm) impl.Command {
	c := impl.Command{Kind: f.kind}
	values := map[string]any{
		"session": lastSession, "seq": lastSeq, "now": lastTime, "at": prefixAt(wide(0x20010db800000000, 0), 48), "bits": mostBits,
		"host": wide(0x20010db800000000, -1), "owner": "node-0123456", "token": lastToken, "span": mostSpan,
	}
	for _, name := range strings.Fields(f.fields) {
		c = withField(c, name, values[name])
	}
	return c
}

// baseCommands are right ones of each kind.
func baseCommands() []impl.Command {
	list := []impl.Command{}
	for _, f := range kindForms() {
		list = append(list, plainCommand(f), wideCommand(f))
	}
	return list
}

func TestCommandConstants(t *testing.T) {
	kinds := []int{
		impl.CmdOpen, impl.CmdClose, impl.CmdAddPool, impl.CmdDropPool, impl.CmdCarve, impl.CmdFree,
		impl.CmdGrant, impl.CmdTake, impl.CmdRenew, impl.CmdRelease, impl.CmdTime,
	}
	if !slices.Equal(kinds, upTo(11)) {
		t.Error(kinds)
	}
}

func TestCommandTable(t *testing.T) {
	pool := prefixOfText(t, "10.0.0.0/24")
	deep := prefixOfText(t, "fd00::/64")
	host := addrOfText(t, "10.0.0.1")
	for _, c := range []struct {
		command impl.Command
		bytes   string
		text    string
	}{
		{impl.Command{Kind: 1}, "01000000 0400000000 00 00 0400000000 00 0000", "open now=0"},
		{impl.Command{Kind: 1, Now: 1000000000}, "0100008094ebdc03 0400000000 00 00 0400000000 00 0000", "open now=1000000000"},
		{impl.Command{Kind: 2, Session: 3, Now: 7}, "02030007 0400000000 00 00 0400000000 00 0000", "close session=3 now=7"},
		{impl.Command{Kind: 2, Session: 1000000, Now: 127}, "02c0843d007f 0400000000 00 00 0400000000 00 0000", "close session=1000000 now=127"},
		{impl.Command{Kind: 3, Session: 1, Seq: 2, Now: 300, At: pool, Bits: 26}, "030102ac02 040a000000 18 1a 0400000000 00 0000", "add-pool session=1 seq=2 now=300 at=10.0.0.0/24 bits=26"},
		{impl.Command{Kind: 3, Session: 1, Seq: 1000000, At: deep, Bits: 128}, "0301c0843d00 06fd000000000000000000000000000000 40 8001 0400000000 00 0000", "add-pool session=1 seq=1000000 now=0 at=fd00::/64 bits=128"},
		{impl.Command{Kind: 3, Session: 1, Seq: 1}, "03010100 0400000000 00 00 0400000000 00 0000", "add-pool session=1 seq=1 now=0 at=0.0.0.0/0 bits=0"},
		{impl.Command{Kind: 4, Session: 1, Seq: 1, At: pool}, "04010100 040a000000 18 00 0400000000 00 0000", "drop-pool session=1 seq=1 now=0 at=10.0.0.0/24"},
		{impl.Command{Kind: 4, Session: 1, Seq: 1, At: impl.Prefix{At: wide(0, 0)}}, "04010100 0600000000000000000000000000000000 00 00 0400000000 00 0000", "drop-pool session=1 seq=1 now=0 at=::/0"},
		{impl.Command{Kind: 5, Session: 1, Seq: 1, At: pool, Owner: "bob"}, "05010100 040a000000 18 00 0400000000 03626f62 0000", "carve session=1 seq=1 now=0 at=10.0.0.0/24 owner=bob"},
		{impl.Command{Kind: 6, Session: 1, Seq: 128, At: pool, Owner: "-"}, "0601800100 040a000000 18 00 0400000000 012d 0000", "free session=1 seq=128 now=0 at=10.0.0.0/24 owner=-"},
		{impl.Command{Kind: 7, Session: 1, Seq: 1, At: pool, Owner: "a", Span: 20}, "07010100 040a000000 18 00 0400000000 0161 0014", "grant session=1 seq=1 now=0 at=10.0.0.0/24 owner=a span=20"},
		{impl.Command{Kind: 8, Session: 1, Seq: 1, Host: host, Owner: "a", Span: 1000}, "08010100 0400000000 00 00 040a000001 0161 00e807", "take session=1 seq=1 now=0 host=10.0.0.1 owner=a span=1000"},
		{impl.Command{Kind: 8, Session: 1, Seq: 1, Owner: "a", Span: 1}, "08010100 0400000000 00 00 0400000000 0161 0001", "take session=1 seq=1 now=0 host=0.0.0.0 owner=a span=1"},
		{impl.Command{Kind: 9, Session: 1, Seq: 9, Host: wide(0, 1), Token: 4, Span: 1}, "09010900 0400000000 00 00 0600000000000000000000000000000001 00 0401", "renew session=1 seq=9 now=0 host=::1 token=4 span=1"},
		{impl.Command{Kind: 10, Session: 1, Seq: 9, Host: host, Token: 1000000000}, "0a010900 0400000000 00 00 040a000001 00 8094ebdc0300", "release session=1 seq=9 now=0 host=10.0.0.1 token=1000000000"},
		{impl.Command{Kind: 11}, "0b000000 0400000000 00 00 0400000000 00 0000", "time now=0"},
		{impl.Command{Kind: 11, Now: 128}, "0b00008001 0400000000 00 00 0400000000 00 0000", "time now=128"},
	} {
		want, err := hex.DecodeString(strings.ReplaceAll(c.bytes, " ", ""))
		if err != nil {
			t.Fatal(err)
		}
		if !checkCommand(t, c.command) {
			t.Errorf("not right: %v", c.command)
		}
		if b := impl.PutCommand(c.command); !bytes.Equal(b, want) {
			t.Errorf("PutCommand(%v) = %x", c.command, b)
		}
		if s := impl.CommandText(c.command); s != c.text {
			t.Errorf("CommandText(%v) = %q", c.command, s)
		}
		if x, ok := impl.GetCommand(want); x != c.command || !ok {
			t.Errorf("GetCommand(%x) = %v, %v", want, x, ok)
		}
		if x, ok := impl.ParseCommand(c.text); x != c.command || !ok {
			t.Errorf("ParseCommand(%q) = %v, %v", c.text, x, ok)
		}
	}
}

// An edge is a value that a field may just have, or may just not have.
type edge struct {
	name  string
	value any
	right bool
}

func edges() []edge {
	return []edge{
		{"session", 1, true}, {"session", 1000000, true}, {"session", 0, false}, {"session", 1000001, false}, {"session", -1, false}, {"session", math.MaxInt, false}, {"session", math.MinInt, false},
		{"seq", 1, true}, {"seq", 1000000, true}, {"seq", 0, false}, {"seq", 1000001, false}, {"seq", -1, false}, {"seq", math.MaxInt, false}, {"seq", math.MinInt, false},
		{"now", 0, true}, {"now", 1000000000, true}, {"now", -1, false}, {"now", 1000000001, false}, {"now", math.MaxInt, false}, {"now", math.MinInt, false},
		{"bits", 0, true}, {"bits", 128, true}, {"bits", -1, false}, {"bits", 129, false}, {"bits", math.MaxInt, false}, {"bits", math.MinInt, false},
		{"token", 1, true}, {"token", 1000000000, true}, {"token", 0, false}, {"token", 1000000001, false}, {"token", -1, false}, {"token", math.MaxInt, false}, {"token", math.MinInt, false},
		{"span", 1, true}, {"span", 1000, true}, {"span", 0, false}, {"span", 1001, false}, {"span", -1, false}, {"span", math.MaxInt, false}, {"span", math.MinInt, false},
		{"owner", "a", true}, {"owner", "z09-", true}, {"owner", "abcdefghijkl", true}, {"owner", "------------", true},
		{"owner", "", false}, {"owner", "abcdefghijklm", false}, {"owner", "Bob", false}, {"owner", "a b", false}, {"owner", " a", false}, {"owner", "a ", false}, {"owner", "a=b", false},
		{"owner", "a/b", false}, {"owner", "a`", false}, {"owner", "{", false}, {"owner", ":", false}, {"owner", "\x00", false}, {"owner", "a\n", false}, {"owner", "ä", false}, {"owner", "a span=1", false},
		{"at", impl.Prefix{}, true}, {"at", prefixAt(narrow(lastNarrow), 32), true}, {"at", prefixAt(narrow(lastNarrow), 1), true},
		{"at", impl.Prefix{At: wide(0, 0)}, true}, {"at", prefixAt(wide(-1, -1), 128), true}, {"at", prefixAt(wide(-1, -1), 1), true},
		{"at", impl.Prefix{Bits: -1}, false}, {"at", impl.Prefix{Bits: 33}, false}, {"at", impl.Prefix{At: narrow(1), Bits: 31}, false}, {"at", impl.Prefix{At: narrow(lastNarrow + 1), Bits: 32}, false},
		{"at", impl.Prefix{At: impl.Addr{Hi: 1}, Bits: 32}, false}, {"at", impl.Prefix{At: wide(0, 0), Bits: -1}, false}, {"at", impl.Prefix{At: wide(0, 0), Bits: 129}, false}, {"at", impl.Prefix{At: wide(0, 1), Bits: 127}, false},
		{"host", narrow(0), true}, {"host", narrow(lastNarrow), true}, {"host", wide(0, 0), true}, {"host", wide(-1, -1), true},
		{"host", narrow(-1), false}, {"host", narrow(lastNarrow + 1), false}, {"host", impl.Addr{Hi: 1}, false}, {"host", impl.Addr{Hi: -1, Lo: 7}, false},
	}
}

func TestCommandFieldsAtTheirEdges(t *testing.T) {
	seen := map[string]int{}
	for _, f := range kindForms() {
		for _, e := range edges() {
			if !f.has(e.name) {
				continue
			}
			seen[fmt.Sprint(e.name, e.right)]++
			for _, base := range []impl.Command{plainCommand(f), wideCommand(f)} {
				if got := checkCommand(t, withField(base, e.name, e.value)); got != e.right {
					t.Errorf("%s with %s %v: %v", f.word, e.name, e.value, got)
				}
			}
		}
	}
	if len(seen) != 2*len(strings.Fields(fieldNames)) {
		t.Error("edges that were looked at:", seen)
	}
}

// Right prefixes and addresses of each length and form, and wrong ones, where a kind has them.
func TestCommandPrefixesAndAddrs(t *testing.T) {
	counts := map[bool]int{}
	for _, f := range kindForms() {
		base := plainCommand(f)
		if f.has("at") {
			for _, p := range slices.Concat(fewPrefixes(), wrongPrefixes()) {
				counts[checkCommand(t, withField(base, "at", p))]++
			}
		}
		if f.has("host") {
			for _, a := range slices.Concat(manyAddrs(), wrongAddrs()) {
				counts[checkCommand(t, withField(base, "host", a))]++
			}
		}
	}
	if counts[true] < 1000 || counts[false] < 100 {
		t.Error(counts)
	}
}

// foreignValues are not zero, and most of them would be right where a kind has the field.
func foreignValues(name string) []any {
	switch name {
	case "at":
		return []any{
			prefixAt(narrow(0x0a000000), 24), impl.Prefix{Bits: 1}, impl.Prefix{Bits: -1}, impl.Prefix{At: wide(0, 0)},
			impl.Prefix{At: narrow(1)}, impl.Prefix{At: impl.Addr{Hi: 1}}, impl.Prefix{At: narrow(lastNarrow + 1)},
		}
	case "host":
		return []any{narrow(1), narrow(lastNarrow), wide(0, 0), wide(1, 0), wide(0, 1), impl.Addr{Hi: 1}, narrow(-1), narrow(lastNarrow + 1)}
	case "owner":
		return []any{"a", "bob", "-", " ", "\x00", "Bob", strings.Repeat("x", 300)}
	}
	return []any{1, 7, 1000, -1, math.MaxInt, math.MinInt}
}

func TestCommandFieldsThatAreNotTheKinds(t *testing.T) {
	looked := 0
	for _, f := range kindForms() {
		for _, name := range strings.Fields(fieldNames) {
			if f.has(name) {
				continue
			}
			for _, value := range foreignValues(name) {
				looked++
				for _, base := range []impl.Command{plainCommand(f), wideCommand(f)} {
					if c := withField(base, name, value); checkCommand(t, c) || impl.CommandOk(c) {
						t.Errorf("%s with %s %v is right", f.word, name, value)
					}
				}
			}
		}
	}
	if looked < 300 {
		t.Error("too few:", looked)
	}
}

func TestCommandFieldsLeftZero(t *testing.T) {
	refused := map[string]int{}
	for _, f := range kindForms() {
		for _, name := range strings.Fields(f.fields) {
			mayBeZero := slices.Contains([]string{"now", "at", "bits", "host"}, name)
			got := checkCommand(t, withField(plainCommand(f), name, zeroOf(name)))
			if got != mayBeZero {
				t.Errorf("%s with %s left zero: %v", f.word, name, got)
			}
			if !got {
				refused[name]++
			}
		}
	}
	for name, want := range map[string]int{"session": 9, "seq": 8, "owner": 4, "token": 2, "span": 3} {
		if refused[name] != want {
			t.Error(name, "was refused", refused[name], "times, not", want)
		}
	}
}

// Each choice of fields, the others zero, under each kind and under two numbers that are none.
func TestCommandEveryChoiceOfFields(t *testing.T) {
	names := strings.Fields(fieldNames)
	right := map[int]int{}
	for kind := 0; kind <= 12; kind++ {
		for mask := range 1 << len(names) {
			c := impl.Command{Kind: kind}
			for i, name := range names {
				if mask>>i&1 == 1 {
					c = withField(c, name, plainValue(name))
				}
			}
			if checkCommand(t, c) {
				right[kind]++
			}
		}
	}
	// Of the fields that may be zero each may be there or not.
	want := map[int]int{1: 2, 2: 2, 3: 8, 4: 4, 5: 4, 6: 4, 7: 4, 8: 4, 9: 4, 10: 4, 11: 2}
	for kind := 0; kind <= 12; kind++ {
		if right[kind] != want[kind] {
			t.Error("kind", kind, "is right with", right[kind], "choices, not", want[kind])
		}
	}
}

func TestCommandKindsThatAreNone(t *testing.T) {
	for _, kind := range []int{0, 12, 13, 22, 128, 129, 256 + 1, 1<<32 + 1, -1, -11, math.MaxInt, math.MinInt, math.MinInt + 1} {
		if checkCommand(t, impl.Command{Kind: kind}) {
			t.Error("right:", kind)
		}
		for _, c := range baseCommands() {
			c.Kind = kind
			if checkCommand(t, c) {
				t.Errorf("right: %v", c)
			}
		}
	}
	if checkCommand(t, impl.Command{}) {
		t.Error("the zero command is right")
	}
}

// Each right command under each other kind: kinds with the same fields take each other's, and add-pool takes a drop-pool's, as its Bits may be 0.
func TestCommandUnderOtherKinds(t *testing.T) {
	taken := 0
	for _, f := range kindForms() {
		for _, g := range kindForms() {
			c := plainCommand(f)
			c.Kind = g.kind
			want := f.fields == g.fields || f.word == "drop-pool" && g.word == "add-pool"
			if checkCommand(t, c) != want {
				t.Errorf("%v of %s", c, f.word)
			}
			if want {
				taken++
			}
		}
	}
	if taken != 16 {
		t.Error("taken:", taken)
	}
}

func refusedBytes(t *testing.T, b []byte) {
	t.Helper()
	if c, ok := checkBytes(t, b); ok || c != (impl.Command{}) {
		t.Errorf("GetCommand(%x) = %v, %v", b, c, ok)
	}
}

func TestGetCommandCutAndBehind(t *testing.T) {
	for _, c := range baseCommands() {
		b := bytesAny(c)
		for n := range b {
			refusedBytes(t, b[:n])
			refusedBytes(t, b[n+1:])
		}
		for behind := range 256 {
			refusedBytes(t, append(slices.Clone(b), byte(behind)))
		}
		refusedBytes(t, slices.Concat(b, b))
		refusedBytes(t, slices.Concat([]byte{0}, b))
	}
	refusedBytes(t, nil)
	refusedBytes(t, []byte{})
}

func TestGetCommandOfNeedlessBytes(t *testing.T) {
	for _, c := range baseCommands() {
		for i, segment := range segments(c) {
			if i == 4 || i == 7 {
				continue
			}
			_, size, _ := numAt(segment, 0)
			for _, tail := range [][]byte{{0}, {128, 0}} {
				list := segments(c)
				head := slices.Clone(segment[:size])
				head[size-1] |= 128
				list[i] = slices.Concat(head, tail, segment[size:])
				refusedBytes(t, slices.Concat(list...))
			}
		}
	}
}

// Numbers of more than 64 bits, and those that have the right one in their last 64 or 32 bits, in each number's place.
func TestGetCommandOfGreatNumbers(t *testing.T) {
	for _, c := range baseCommands() {
		for i, segment := range segments(c) {
			if i == 4 || i == 7 {
				continue
			}
			n, size, _ := numAt(segment, 0)
			past := append(numBytes(n | math.MinInt)[:9], 3)
			endless := bytes.Repeat([]byte{255}, 12)
			for _, number := range [][]byte{past, endless, numBytes(n | math.MinInt), numBytes(n | 1<<32), numBytes(-1), numBytes(math.MaxInt)} {
				list := segments(c)
				list[i] = slices.Concat(number, segment[size:])
				refusedBytes(t, slices.Concat(list...))
			}
		}
	}
}

func TestGetCommandOfOtherAddrs(t *testing.T) {
	for _, c := range baseCommands() {
		for _, place := range []int{4, 7} {
			for mark := range 256 {
				list := segments(c)
				list[place][0] = byte(mark)
				checkBytes(t, slices.Concat(list...))
			}
			list := segments(c)
			list[place] = nil
			refusedBytes(t, slices.Concat(list...))
		}
	}
	// A field that must be zero is the zero address of 32 bits, not that of 128.
	for _, f := range kindForms() {
		list := segments(plainCommand(f))
		if !f.has("host") {
			list[7] = addrBytes(wide(0, 0))
			refusedBytes(t, slices.Concat(list...))
		}
		list = segments(plainCommand(f))
		if !f.has("at") {
			list[4] = addrBytes(wide(0, 0))
			refusedBytes(t, slices.Concat(list...))
		}
	}
}

// Each byte of a right command turned to each other one, left out, and doubled.
func TestGetCommandOfBytesNearby(t *testing.T) {
	counts := map[bool]int{}
	look := func(b []byte) {
		_, ok := checkBytes(t, b)
		counts[ok]++
	}
	for _, c := range baseCommands() {
		b := bytesAny(c)
		for place := range b {
			for value := range 256 {
				other := slices.Clone(b)
				other[place] = byte(value)
				look(other)
			}
			look(slices.Delete(slices.Clone(b), place, place+1))
			look(slices.Insert(slices.Clone(b), place, b[place]))
			look(slices.Insert(slices.Clone(b), place, 0))
			look(slices.Insert(slices.Clone(b), place, 128))
		}
	}
	if counts[true] < 10000 || counts[false] < 10000 {
		t.Error(counts)
	}
}

func refusedText(t *testing.T, s string) {
	t.Helper()
	if c, ok := checkText(t, s); ok || c != (impl.Command{}) {
		t.Errorf("ParseCommand(%q) = %v, %v", s, c, ok)
	}
}

func TestParseCommandNone(t *testing.T) {
	for _, s := range []string{
		"", " ", "=", "open", "time", "open ", "open now", "open now=", "open now= 1", "open =1", "open 1", "now=1", " now=1",
		"open now=01", "open now=00", "open now=+1", "open now=-1", "open now=-0", "open now=+0", "open now=1.", "open now=1.0", "open now=1e3", "open now=0x1", "open now=1_0",
		"open now=1000000001", "open now=18446744073709551616", "open now=18446744073709551617", "open now=99999999999999999999999", "open now=4294967297000000000",
		"open  now=1", " open now=1", "open now=1 ", "open now=1  ", "open\tnow=1", "open now=1\n", "open now=1\x00", "open\nnow=1", "open now =1", "open now= 1", "open now==1", "open now=1=",
		"Open now=1", "OPEN now=1", "open Now=1", "open NOW=1", "opened now=1", "ope now=1", "fly now=1", "open-now=1", "opennow=1", "open,now=1", "\"open\" now=1",
		"open now=1 session=1", "open session=1 now=1", "open now=1 now=1", "open now=1 now=2", "open now=1 open", "open open now=1", "open now=1 time now=1", "open now=1 x", "open now=1 x=1", "open now=1 =", "open now=1 owner=", "open seq=0 now=1", "open now=1 bits=0", "open now=1 owner=", "open now=1 at=0.0.0.0/0", "open now=1 host=0.0.0.0",
		"1 now=1", "11 now=1", "kind1 now=1", "addpool session=1 seq=1 now=0 at=10.0.0.0/24 bits=26", "add_pool session=1 seq=1 now=0 at=10.0.0.0/24 bits=26", "add pool session=1 seq=1 now=0 at=10.0.0.0/24 bits=26",
		"close now=7", "close session=3", "close now=7 session=3", "close session=0 now=7", "close session=1000001 now=7", "close session=3 seq=1 now=7", "close session=3 now=7 seq=1",
		"add-pool session=1 seq=1 now=0 at=10.0.0.0/24", "add-pool session=1 seq=1 now=0 bits=26", "add-pool session=1 seq=1 now=0 bits=26 at=10.0.0.0/24", "add-pool session=1 seq=1 now=0 at=10.0.0.0/24 bits=129", "add-pool session=1 seq=1 now=0 at=10.0.0.0/24 bits=026",
		"add-pool session=1 seq=1 now=0 at=10.0.0.1/24 bits=26", "add-pool session=1 seq=1 now=0 at=10.0.0.0/024 bits=26", "add-pool session=1 seq=1 now=0 at=10.0.0.0 bits=26", "add-pool session=1 seq=1 now=0 at= bits=26", "add-pool session=1 seq=1 now=0 at=0:0::/0 bits=26", "add-pool session=1 seq=1 now=0 at=FD00::/64 bits=26",
		"drop-pool session=1 seq=1 now=0 at=fd00::/129", "drop-pool session=1 seq=1 now=0 at=10.0.0.0/24 bits=26", "drop-pool session=1 seq=1 now=0",
		"carve session=1 seq=0 now=0 at=10.0.0.0/24 owner=bob", "carve session=1 seq=1 now=0 at=10.0.0.0/24", "carve session=1 seq=1 now=0 at=10.0.0.0/24 owner=", "carve session=1 seq=1 now=0 at=10.0.0.0/24 owner=Bob", "carve session=1 seq=1 now=0 at=10.0.0.0/24 owner=abcdefghijklm", "carve session=1 seq=1 now=0 owner=bob at=10.0.0.0/24", "carve session=1 seq=1 now=0 at=10.0.0.0/24 owner=a=b", "carve session=1 seq=1 now=0 at=10.0.0.0/24 owner=bob span=1",
		"free seq=1 session=1 now=0 at=10.0.0.0/24 owner=bob", "free session=1 now=0 seq=1 at=10.0.0.0/24 owner=bob",
		"grant session=1 seq=1 now=0 at=10.0.0.0/26 owner=bob span=0", "grant session=1 seq=1 now=0 at=10.0.0.0/26 owner=bob span=1001", "grant session=1 seq=1 now=0 host=10.0.0.1 owner=bob span=1", "grant session=1 seq=1 now=0 at=10.0.0.0/26 span=1 owner=bob", "grant session=1 seq=1 now=0 at=10.0.0.0/26 owner=bob", "grant session=1 seq=1 now=0 at=10.0.0.0/26 owner=bob token=1 span=1",
		"take session=1 seq=1 now=0 at=10.0.0.1/32 owner=bob span=1", "take session=1 seq=1 now=0 host=10.0.0.1/32 owner=bob span=1", "take session=1 seq=1 now=0 host=10.0.0.01 owner=bob span=1", "take session=1 seq=1 now=0 host= owner=bob span=1", "take session=1 seq=1 now=0 owner=bob span=1", "take session=1 seq=1 now=0 host=10.0.0.1 host=10.0.0.1 owner=bob span=1",
		"renew session=1 seq=9 now=0 host=::1 token=0 span=1", "renew session=1 seq=9 now=0 host=::1 token=1000000001 span=1", "renew session=1 seq=9 now=0 host=0:0:0:0:0:0:0:1 token=4 span=1", "renew session=1 seq=9 now=0 host=::1 token=4 span=1 span=1", "renew session=1 seq=9 now=0 host=::1 span=1 token=4", "renew session=1 seq=9 now=0 host=::1 owner=bob span=1",
		"release session=1 seq=9 now=0 host=10.0.0.1", "release session=1 seq=9 now=0 host=10.0.0.1 token=4 span=1", "release session=1 seq=9 now=0 token=4 host=10.0.0.1", "release session=1 seq=1000001 now=0 host=10.0.0.1 token=4",
		"time now=1000000001", "time session=1 now=1", "time now=1 seq=1", "times now=1", "open now=1 \xff", "öpen now=1", "open now=１",
	} {
		refusedText(t, s)
	}
}

// Each choice of fields under each word: just that of all the kind's own is a text.
func TestParseCommandEveryChoiceOfFields(t *testing.T) {
	names := strings.Fields(fieldNames)
	right := 0
	for _, f := range kindForms() {
		for mask := range 1 << len(names) {
			parts, chosen := []string{f.word}, []string{}
			for i, name := range names {
				if mask>>i&1 == 1 {
					chosen = append(chosen, name)
					parts = append(parts, partText(withField(impl.Command{}, name, plainValue(name)), name))
				}
			}
			_, ok := checkText(t, strings.Join(parts, " "))
			if ok != (strings.Join(chosen, " ") == f.fields) {
				t.Errorf("%v: %v", parts, ok)
			}
			if ok {
				right++
			}
		}
	}
	if right != 11 {
		t.Error("right:", right)
	}
}

// Each field left out, doubled (the same again, there or at the end, or with another value), in another's place, and one that is not the kind's in each place.
func TestParseCommandOtherRows(t *testing.T) {
	for _, c := range baseCommands() {
		parts := strings.Split(textAny(c), " ")
		form, _ := formOf(c.Kind)
		for i := 1; i < len(parts); i++ {
			name, _, _ := strings.Cut(parts[i], "=")
			refusedRow(t, slices.Delete(slices.Clone(parts), i, i+1))
			refusedRow(t, slices.Insert(slices.Clone(parts), i, parts[i]))
			refusedRow(t, append(slices.Clone(parts), parts[i]))
			refusedRow(t, slices.Insert(slices.Clone(parts), i, partText(impl.Command{}, name)))
			refusedRow(t, slices.Insert(slices.Clone(parts), i+1, name+"=x"))
			for k := range i {
				swapped := slices.Clone(parts)
				swapped[i], swapped[k] = swapped[k], swapped[i]
				refusedRow(t, swapped)
			}
		}
		for _, name := range strings.Fields(fieldNames) {
			if form.has(name) {
				continue
			}
			for i := range len(parts) + 1 {
				for _, value := range []any{zeroOf(name), plainValue(name)} {
					part := partText(withField(impl.Command{}, name, value), name)
					refusedRow(t, slices.Insert(slices.Clone(parts), i, part))
				}
			}
		}
	}
}

func refusedRow(t *testing.T, parts []string) {
	t.Helper()
	refusedText(t, strings.Join(parts, " "))
}

// Every order of a kind's fields: just one of them is a text.
func TestParseCommandEveryOrder(t *testing.T) {
	for _, f := range kindForms() {
		parts := strings.Split(textAny(plainCommand(f)), " ")[1:]
		right, all := 0, 0
		var turn func(int)
		turn = func(from int) {
			if from == len(parts) {
				all++
				if _, ok := checkText(t, f.word+" "+strings.Join(parts, " ")); ok {
					right++
				}
				return
			}
			for i := from; i < len(parts); i++ {
				parts[from], parts[i] = parts[i], parts[from]
				turn(from + 1)
				parts[from], parts[i] = parts[i], parts[from]
			}
		}
		turn(0)
		if right != 1 {
			t.Error(f.word, right, "of", all)
		}
	}
}

// Needless blanks, noughts and signs, in each place.
func TestParseCommandNeedless(t *testing.T) {
	for _, c := range baseCommands() {
		s := textAny(c)
		for place := range len(s) + 1 {
			refusedText(t, s[:place]+" "+s[place:])
		}
		parts := strings.Split(s, " ")
		for i := 1; i < len(parts); i++ {
			name, value, _ := strings.Cut(parts[i], "=")
			if name == "owner" {
				continue
			}
			for _, other := range []string{"0" + value, "+" + value, "-" + value, value + ".", value + " ", "=" + value, "\"" + value + "\"", "", "0x" + value, value + "_0"} {
				row := slices.Clone(parts)
				row[i] = name + "=" + other
				refusedRow(t, row)
			}
		}
	}
}

func TestParseCommandOtherWords(t *testing.T) {
	words := []string{"", "fly", "Open", "TIME", "kind", "command", "add", "pool", "addpool", "add_pool", "drop", "drop-pools", "carved", "freed", "get", "taken", "renewal", "releas", "times", "0", "1", "11", "12", "open=", "=open", "now=0", "session=1", "\x00"}
	for _, f := range kindForms() {
		rest := strings.TrimPrefix(textAny(plainCommand(f)), f.word)
		for _, word := range words {
			refusedText(t, word+rest)
		}
		for _, g := range kindForms() {
			c, ok := checkText(t, g.word+rest)
			if ok != (f.fields == g.fields) || ok && c.Kind != g.kind {
				t.Errorf("%q: %v, %v", g.word+rest, c, ok)
			}
		}
		refusedText(t, f.word)
		refusedText(t, strings.TrimPrefix(rest, " "))
	}
}

// Each byte of a right text turned to others, left out, doubled, and others put in.
func TestParseCommandOfTextsNearby(t *testing.T) {
	others := "0129afz-+=/.: \n\x00ABZ_\xff"
	counts := map[bool]int{}
	look := func(s string) {
		_, ok := checkText(t, s)
		counts[ok]++
	}
	for _, c := range baseCommands() {
		s := textAny(c)
		for place := range len(s) {
			look(s[:place])
			look(s[place+1:])
			look(s[:place] + s[place+1:])
			look(s[:place] + s[place:place+1] + s[place:])
			for i := range len(others) {
				look(s[:place] + others[i:i+1] + s[place+1:])
				look(s[:place] + others[i:i+1] + s[place:])
			}
		}
	}
	if counts[true] < 1000 || counts[false] < 10000 {
		t.Error(counts)
	}
}

func TestParseCommandOfLongTexts(t *testing.T) {
	for _, s := range []string{
		strings.Repeat(" ", 1<<20),
		strings.Repeat("open now=1 ", 1<<16),
		"open now=1" + strings.Repeat(" now=1", 1<<16),
		"open now=" + strings.Repeat("1", 1<<20),
		"open now=" + strings.Repeat("0", 1<<20),
		"carve session=1 seq=1 now=0 at=10.0.0.0/24 owner=" + strings.Repeat("a", 1<<20),
		strings.Repeat("=", 1<<20),
	} {
		if c, ok := impl.ParseCommand(s); ok || c != (impl.Command{}) {
			t.Errorf("a text of %d bytes: %v, %v", len(s), c, ok)
		}
	}
	owner := impl.Command{Kind: impl.CmdCarve, Session: 1, Seq: 1, Owner: strings.Repeat("a", 1<<20)}
	if impl.CommandOk(owner) || impl.CommandText(owner) != "" || len(impl.PutCommand(owner)) != 0 {
		t.Error("a long owner is right")
	}
	refusedBytes(t, bytesAny(owner))
}

// someValue is of a field, mostly right.
func someValue(chance *rand.Rand, name string) any {
	if chance.Intn(12) == 0 {
		list := foreignValues(name)
		return list[chance.Intn(len(list))]
	}
	switch name {
	case "session", "seq":
		return 1 + chance.Intn(1<<chance.Intn(20))
	case "now":
		return chance.Intn(1 << chance.Intn(30))
	case "at":
		a := someAddr(chance)
		return prefixAt(a, chance.Intn(widthOf(a.Six)+1))
	case "bits":
		return chance.Intn(mostBits + 1)
	case "host":
		return someAddr(chance)
	case "owner":
		return someOwner(chance)
	case "token":
		return 1 + chance.Intn(1<<chance.Intn(30))
	case "span":
		return 1 + chance.Intn(mostSpan)
	}
	panic("no field: " + name)
}

func someAddr(chance *rand.Rand) impl.Addr {
	if chance.Intn(2) == 0 {
		return narrow(int(chance.Uint32()))
	}
	mask := chance.Uint64() & chance.Uint64()
	return wide(int(chance.Uint64()&mask), int(chance.Uint64()>>chance.Intn(64)))
}

func someOwner(chance *rand.Rand) string {
	const letters = "abcdefghijklmnopqrstuvwxyz0123456789-"
	b := make([]byte, 1+chance.Intn(mostOwner))
	for i := range b {
		b[i] = letters[chance.Intn(len(letters))]
	}
	return string(b)
}

// Any commands come back just if they are right, and no two of them have one text or one row of bytes.
func TestCommandsComeBack(t *testing.T) {
	chance := rand.New(rand.NewSource(8))
	texts := map[string]impl.Command{}
	rows := map[string]impl.Command{}
	counts := map[bool]int{}
	for range 20000 {
		form := kindForms()[chance.Intn(11)]
		c := impl.Command{Kind: form.kind}
		for _, name := range strings.Fields(fieldNames) {
			if form.has(name) || chance.Intn(60) == 0 {
				c = withField(c, name, someValue(chance, name))
			}
		}
		right := checkCommand(t, c)
		counts[right]++
		if !right {
			continue
		}
		s, b := impl.CommandText(c), string(impl.PutCommand(c))
		if d, there := texts[s]; there && d != c {
			t.Fatalf("one text of two: %v, %v", c, d)
		}
		if d, there := rows[b]; there && d != c {
			t.Fatalf("one row of bytes of two: %v, %v", c, d)
		}
		texts[s], rows[b] = c, c
	}
	if counts[true] < 5000 || counts[false] < 2000 {
		t.Error(counts)
	}
}

// Any bytes, most of which look like a command's.
func TestGetCommandOfAnyBytes(t *testing.T) {
	chance := rand.New(rand.NewSource(88))
	base := baseCommands()
	for range 20000 {
		list := segments(base[chance.Intn(len(base))])
		for range 1 + chance.Intn(3) {
			other := segments(base[chance.Intn(len(base))])
			list[chance.Intn(len(list))] = other[chance.Intn(len(other))]
		}
		checkBytes(t, slices.Concat(list...))
		b := make([]byte, chance.Intn(60))
		chance.Read(b)
		checkBytes(t, b)
	}
}

// What was answered stays, whatever happens to what was handed in and to other answers, and a second call answers the same.
func TestCommandsStayApart(t *testing.T) {
	for _, c := range baseCommands() {
		first, second := impl.PutCommand(c), impl.PutCommand(c)
		kept := slices.Clone(first)
		for i := range second[:cap(second)] {
			second[:cap(second)][i] = 'x'
		}
		if !bytes.Equal(first, kept) || !bytes.Equal(impl.PutCommand(c), kept) {
			t.Errorf("two answers share memory: %v", c)
		}
		x, _ := impl.GetCommand(first)
		y, _ := impl.GetCommand(first)
		owner := strings.Clone(c.Owner)
		for i := range first[:cap(first)] {
			first[:cap(first)][i] = 'x'
		}
		if x != y || x != c || x.Owner != owner {
			t.Errorf("changed with what was handed in: %v", x)
		}
		wrong := c
		wrong.Kind = 0
		none := append(impl.PutCommand(wrong), "none"...)
		if again := impl.PutCommand(wrong); len(again) != 0 || string(none) != "none" {
			t.Errorf("of a wrong one: %x", again)
		}
	}
}
