package tests

import (
	"bytes"
	"fmt"
	"math"
	"math/rand"
	"slices"
	"testing"

	"loop.example/g00113/impl"
)

const mostFile = 400000

func fileOf(s string, sure int) impl.File {
	return impl.File{Bytes: []byte(s), Sure: sure}
}

// longFile has so many bytes, no two neighbours of which are alike.
func longFile(length int, sure int) impl.File {
	f := impl.File{Bytes: make([]byte, length), Sure: sure}
	for i := range f.Bytes {
		f.Bytes[i] = byte(i % 251)
	}
	return f
}

// fileText tells a file, and of a long one its length alone.
func fileText(f impl.File) string {
	if len(f.Bytes) > 60 {
		return fmt.Sprintf("{%d bytes, %d}", len(f.Bytes), f.Sure)
	}
	return fmt.Sprintf("{%q, %d}", f.Bytes, f.Sure)
}

func fileRight(f impl.File) bool {
	return isWithin(len(f.Bytes), 0, mostFile) && isWithin(f.Sure, 0, len(f.Bytes))
}

// sameFile takes bytes without elements and nil for the same.
func sameFile(a impl.File, b impl.File) bool {
	return bytes.Equal(a.Bytes, b.Bytes) && a.Sure == b.Sure
}

func fileAddWanted(f impl.File, b []byte) (impl.File, bool) {
	joint := slices.Concat(f.Bytes, b)
	if !fileRight(f) || len(joint) > mostFile {
		return f, false
	}
	return impl.File{Bytes: joint, Sure: f.Sure}, true
}

// fileCrashWanted goes byte by byte behind what is sure, as long as there is one and it may be kept.
func fileCrashWanted(f impl.File, keep int) impl.File {
	if !fileRight(f) {
		return f
	}
	end := f.Sure
	for kept := 0; kept < keep && end < len(f.Bytes); kept++ {
		end++
	}
	return impl.File{Bytes: f.Bytes[:end], Sure: end}
}

func cloneFile(f impl.File) impl.File {
	f.Bytes = slices.Clone(f.Bytes)
	return f
}

// scribbleBytes writes into all of b's memory, its spare room too.
func scribbleBytes(b []byte) {
	for i := range b[:cap(b)] {
		b[:cap(b)][i] ^= 0x5a
	}
}

// askedFile hands f in with spare room behind its bytes, and fails if the call changes them or the room, answers any of their memory, or answers otherwise when it is called again behind an answer that was written over.
func askedFile(t *testing.T, f impl.File, call func(impl.File) impl.File) impl.File {
	t.Helper()
	const spare = "spare room"
	room := slices.Concat(f.Bytes, []byte(spare))
	kept := slices.Clone(room)
	given := impl.File{Bytes: room[:len(f.Bytes)], Sure: f.Sure}
	first := call(given)
	answer := cloneFile(first)
	if !bytes.Equal(room, kept) {
		t.Fatalf("the file %s was changed, or what stands behind", fileText(f))
	}
	scribbleBytes(first.Bytes)
	if !bytes.Equal(room, kept) {
		t.Fatalf("what was answered for %s has its memory", fileText(f))
	}
	second := call(given)
	scribbleBytes(room)
	if !sameFile(second, answer) {
		t.Fatalf("of %s first %s, then %s", fileText(f), fileText(answer), fileText(second))
	}
	return answer
}

func checkFile(t *testing.T, f impl.File) bool {
	t.Helper()
	ok := false
	askedFile(t, f, func(x impl.File) impl.File {
		ok = impl.FileOk(x)
		return impl.File{}
	})
	if ok != fileRight(f) {
		t.Fatalf("FileOk(%s) = %v", fileText(f), ok)
	}
	return ok
}

// checkFileAdd hands b in with spare room too.
func checkFileAdd(t *testing.T, f impl.File, b []byte) (impl.File, bool) {
	t.Helper()
	ok, kept := false, slices.Concat(b, []byte("behind"))
	got := askedFile(t, f, func(x impl.File) (answer impl.File) {
		room := slices.Clone(kept)
		answer, ok = impl.FileAdd(x, room[:len(b)])
		if !bytes.Equal(room, kept) {
			t.Fatalf("FileAdd(%s) of %d bytes changed them, or what stands behind", fileText(f), len(b))
		}
		was := cloneFile(answer)
		scribbleBytes(room)
		if !sameFile(answer, was) {
			t.Fatalf("FileAdd(%s) of %d bytes answers their memory", fileText(f), len(b))
		}
		return answer
	})
	if want, good := fileAddWanted(f, b); ok != good || !sameFile(got, want) {
		t.Fatalf("FileAdd(%s) of %d bytes = %s, %v, not %s, %v", fileText(f), len(b), fileText(got), ok, fileText(want), good)
	}
	return got, ok
}

// checkFileSync asks the same of wrong files: the chapter says "all of it sure", and names no other answer for them.
func checkFileSync(t *testing.T, f impl.File) impl.File {
	t.Helper()
	got := askedFile(t, f, impl.FileSync)
	if want := (impl.File{Bytes: f.Bytes, Sure: len(f.Bytes)}); !sameFile(got, want) {
		t.Fatalf("FileSync(%s) = %s", fileText(f), fileText(got))
	}
	return got
}

func checkFileCrash(t *testing.T, f impl.File, keep int) impl.File {
	t.Helper()
	got := askedFile(t, f, func(x impl.File) impl.File { return impl.FileCrash(x, keep) })
	if want := fileCrashWanted(f, keep); !sameFile(got, want) {
		t.Fatalf("FileCrash(%s, %d) = %s, not %s", fileText(f), keep, fileText(got), fileText(want))
	}
	return got
}

// keepsAround are the keeps below 0, at and around how many bytes are not sure and there are in all, and the farthest.
func keepsAround(f impl.File) []int {
	keeps := []int{math.MinInt, math.MinInt + 1, -2, -1, 0, 1, 2, 3, 1 << 31, 1 << 32, math.MaxInt - 1, math.MaxInt}
	for _, n := range []int{len(f.Bytes) - f.Sure, len(f.Bytes), f.Sure, -f.Sure, mostFile} {
		keeps = append(keeps, n-1, n, n+1)
	}
	return append(keeps, (len(f.Bytes)-f.Sure)/2)
}

func rightFiles() map[string]impl.File {
	return map[string]impl.File{
		"nil":            {},
		"empty":          fileOf("", 0),
		"one":            fileOf("a", 0),
		"one sure":       fileOf("a", 1),
		"nothing sure":   fileOf("abcdefg", 0),
		"something sure": fileOf("abcdefg", 3),
		"all but one":    fileOf("abcdefg", 6),
		"all sure":       fileOf("abcdefg", 7),
		"any bytes":      fileOf("\x00\xff\n\x80\x00", 2),
		"noughts":        fileOf("\x00\x00\x00\x00", 1),
		"most":           longFile(mostFile, 0),
		"most, some":     longFile(mostFile, mostFile/2),
		"most, but one":  longFile(mostFile, mostFile-1),
		"most, sure":     longFile(mostFile, mostFile),
		"one fewer":      longFile(mostFile-1, 1000),
	}
}

func wrongFiles() map[string]impl.File {
	return map[string]impl.File{
		"nil, sure":       {Sure: 1},
		"nil, below":      {Sure: -1},
		"empty, sure":     fileOf("", 1),
		"empty, below":    fileOf("", -1),
		"one more":        fileOf("abc", 4),
		"far more":        fileOf("abc", math.MaxInt),
		"below":           fileOf("abc", -1),
		"far below":       fileOf("abc", math.MinInt),
		"most, one more":  longFile(mostFile, mostFile+1),
		"most, below":     longFile(mostFile, -1),
		"long":            longFile(mostFile+1, 0),
		"long, some sure": longFile(mostFile+1, 1000),
		"long, most sure": longFile(mostFile+1, mostFile),
		"long, all sure":  longFile(mostFile+1, mostFile+1),
		"long, more sure": longFile(mostFile+1, mostFile+2),
		"long, below":     longFile(mostFile+1, -1),
		"far longer":      longFile(2*mostFile, 7),
	}
}

func TestFileConstants(t *testing.T) {
	if impl.MaxFile != mostFile {
		t.Error(impl.MaxFile)
	}
}

func TestFileOkTable(t *testing.T) {
	for _, c := range []struct {
		length, sure int
		want         bool
	}{
		{0, 0, true},
		{0, 1, false},
		{0, -1, false},
		{1, -1, false},
		{1, 0, true},
		{1, 1, true},
		{1, 2, false},
		{7, math.MinInt, false},
		{7, -7, false},
		{7, -1, false},
		{7, 0, true},
		{7, 1, true},
		{7, 6, true},
		{7, 7, true},
		{7, 8, false},
		{7, mostFile, false},
		{7, math.MaxInt, false},
		{mostFile - 1, mostFile - 1, true},
		{mostFile - 1, mostFile, false},
		{mostFile, -1, false},
		{mostFile, 0, true},
		{mostFile, 1, true},
		{mostFile, mostFile - 1, true},
		{mostFile, mostFile, true},
		{mostFile, mostFile + 1, false},
		{mostFile + 1, -1, false},
		{mostFile + 1, 0, false},
		{mostFile + 1, 1, false},
		{mostFile + 1, mostFile, false},
		{mostFile + 1, mostFile + 1, false},
		{mostFile + 1, mostFile + 2, false},
		{2 * mostFile, mostFile, false},
	} {
		if got := checkFile(t, longFile(c.length, c.sure)); got != c.want {
			t.Errorf("FileOk of %d bytes, %d sure: %v", c.length, c.sure, got)
		}
	}
	if !impl.FileOk(impl.File{}) || !impl.FileOk(impl.File{Bytes: []byte{}}) {
		t.Error("the zero file, or the empty one")
	}
}

func TestFileOkOfRightAndWrong(t *testing.T) {
	for name, f := range rightFiles() {
		if !checkFile(t, f) {
			t.Error("not right:", name)
		}
	}
	for name, f := range wrongFiles() {
		if checkFile(t, f) {
			t.Error("right:", name)
		}
	}
}

func TestFileAddTable(t *testing.T) {
	for _, c := range []struct {
		have string
		sure int
		add  string
		want string
		left int
		ok   bool
	}{
		{"", 0, "abc", "abc", 0, true},
		{"", 0, "", "", 0, true},
		{"", 0, "\x00", "\x00", 0, true},
		{"abc", 0, "", "abc", 0, true},
		{"abc", 2, "", "abc", 2, true},
		{"abc", 3, "", "abc", 3, true},
		{"abc", 0, "defg", "abcdefg", 0, true},
		{"abc", 1, "defg", "abcdefg", 1, true},
		{"abc", 3, "defg", "abcdefg", 3, true},
		{"abc", 3, "abc", "abcabc", 3, true},
		{"b", 1, "a", "ba", 1, true},
		{"\xff\x00", 1, "\x00\xfe", "\xff\x00\x00\xfe", 1, true},
		// A wrong file stays, whatever is added.
		{"abc", 4, "defg", "abc", 4, false},
		{"abc", 4, "d", "abc", 4, false},
		{"abc", 4, "", "abc", 4, false},
		{"abc", -1, "defg", "abc", -1, false},
		{"abc", -1, "", "abc", -1, false},
		{"", 1, "a", "", 1, false},
		{"", -1, "a", "", -1, false},
		{"", 1, "", "", 1, false},
	} {
		f, ok := checkFileAdd(t, fileOf(c.have, c.sure), []byte(c.add))
		if ok != c.ok || string(f.Bytes) != c.want || f.Sure != c.left {
			t.Errorf("FileAdd({%q, %d}, %q) = %s, %v", c.have, c.sure, c.add, fileText(f), ok)
		}
	}
	if f, ok := impl.FileAdd(impl.File{}, nil); !ok || len(f.Bytes) != 0 || f.Sure != 0 {
		t.Error("nothing to nothing:", f, ok)
	}
}

// Files of each length around the bounds, and so many bytes that they come to just MaxFile, to one fewer, and past it.
func TestFileAddMost(t *testing.T) {
	counts := map[bool]int{}
	for _, have := range []int{0, 1, 7, mostFile / 2, mostFile - 7, mostFile - 1, mostFile} {
		for _, sure := range []int{0, have / 2, have} {
			for _, all := range []int{mostFile - 1, mostFile, mostFile + 1, mostFile + 2, 2 * mostFile} {
				if all < have {
					continue
				}
				f, b := longFile(have, sure), longFile(all, 0).Bytes[have:]
				got, ok := checkFileAdd(t, f, b)
				if ok != (all <= mostFile) || ok && !sameFile(got, longFile(all, sure)) || !ok && !sameFile(got, f) {
					t.Errorf("%d bytes behind %d: %s, %v", all-have, have, fileText(got), ok)
				}
				counts[ok]++
			}
		}
	}
	if counts[true] < 20 || counts[false] < 40 {
		t.Error(counts)
	}
}

// A full file takes no byte more, sure or not, until a crash has made room in it.
func TestFileAddBehindACrash(t *testing.T) {
	full := longFile(mostFile, mostFile-2)
	for _, f := range []impl.File{full, impl.FileSync(full)} {
		if got, ok := checkFileAdd(t, f, []byte("x")); ok || !sameFile(got, f) {
			t.Error("one more:", fileText(got), ok)
		}
	}
	f := checkFileCrash(t, full, 1)
	f, ok := checkFileAdd(t, f, []byte("x"))
	if !ok || len(f.Bytes) != mostFile || f.Sure != mostFile-1 || f.Bytes[mostFile-1] != 'x' {
		t.Error("in the room that a crash made:", fileText(f), ok)
	}
	if _, ok = checkFileAdd(t, f, []byte("x")); ok {
		t.Error("one more behind that")
	}
}

func TestFileAddToWrongFiles(t *testing.T) {
	for name, f := range wrongFiles() {
		for _, b := range [][]byte{nil, {}, {0}, []byte("defg"), longFile(mostFile, 0).Bytes, longFile(mostFile+1, 0).Bytes} {
			if got, ok := checkFileAdd(t, f, b); ok || !sameFile(got, f) {
				t.Errorf("%s, with %d bytes: %s, %v", name, len(b), fileText(got), ok)
			}
		}
	}
}

// Bytes that come in pieces are those that come at once.
func TestFileAddInPieces(t *testing.T) {
	const all = "abcdefgh"
	for sure := range 3 {
		for a := 2; a <= len(all); a++ {
			for b := a; b <= len(all); b++ {
				f, _ := checkFileAdd(t, fileOf("ab", sure), []byte(all[2:a]))
				f, _ = checkFileAdd(t, f, []byte(all[a:b]))
				f, ok := checkFileAdd(t, f, []byte(all[b:]))
				if !ok || !sameFile(f, fileOf(all, sure)) {
					t.Errorf("cut at %d and %d: %s, %v", a, b, fileText(f), ok)
				}
			}
		}
	}
}

// What is added may be a part of the file's own bytes, or of the room behind them.
func TestFileAddOfItsOwnBytes(t *testing.T) {
	room := []byte("abcdefgh")
	f := impl.File{Bytes: room[:4], Sure: 2}
	for _, c := range []struct {
		from, to int
		want     string
	}{{0, 4, "abcdabcd"}, {1, 3, "abcdbc"}, {4, 8, "abcdefgh"}, {2, 7, "abcdcdefg"}, {6, 8, "abcdgh"}, {4, 4, "abcd"}} {
		got, ok := impl.FileAdd(f, room[c.from:c.to])
		if !ok || string(got.Bytes) != c.want || got.Sure != 2 {
			t.Errorf("%d to %d: %s, %v", c.from, c.to, fileText(got), ok)
		}
		scribbleBytes(got.Bytes)
		if string(room) != "abcdefgh" {
			t.Fatalf("%d to %d: the room is %q", c.from, c.to, room)
		}
	}
}

func TestFileSyncTable(t *testing.T) {
	for _, c := range []struct {
		have string
		sure int
		left int
	}{
		{"", 0, 0},
		{"a", 0, 1},
		{"a", 1, 1},
		{"abcdefg", 0, 7},
		{"abcdefg", 3, 7},
		{"abcdefg", 6, 7},
		{"abcdefg", 7, 7},
		// Of a wrong file, too, all is sure.
		{"", 1, 0},
		{"", -1, 0},
		{"abc", 4, 3},
		{"abc", math.MaxInt, 3},
		{"abc", -1, 3},
		{"abc", math.MinInt, 3},
	} {
		f := checkFileSync(t, fileOf(c.have, c.sure))
		if string(f.Bytes) != c.have || f.Sure != c.left {
			t.Errorf("FileSync({%q, %d}) = %s", c.have, c.sure, fileText(f))
		}
	}
}

func TestFileSyncOfAnyFile(t *testing.T) {
	for name, f := range rightFiles() {
		synced := checkFileSync(t, f)
		if !checkFile(t, synced) || !sameFile(checkFileSync(t, synced), synced) {
			t.Error("not right, or otherwise when synced twice:", name, fileText(synced))
		}
	}
	for name, f := range wrongFiles() {
		synced := checkFileSync(t, f)
		if checkFile(t, synced) != (len(f.Bytes) <= mostFile) {
			t.Error(name, fileText(synced))
		}
	}
}

func TestFileCrashTable(t *testing.T) {
	for _, c := range []struct {
		have string
		sure int
		keep int
		want string
	}{
		{"", 0, -1, ""},
		{"", 0, 0, ""},
		{"", 0, 1, ""},
		{"", 0, math.MaxInt, ""},
		{"", 0, math.MinInt, ""},
		// Nothing is sure.
		{"abcdefg", 0, math.MinInt, ""},
		{"abcdefg", 0, -7, ""},
		{"abcdefg", 0, -1, ""},
		{"abcdefg", 0, 0, ""},
		{"abcdefg", 0, 1, "a"},
		{"abcdefg", 0, 4, "abcd"},
		{"abcdefg", 0, 6, "abcdef"},
		{"abcdefg", 0, 7, "abcdefg"},
		{"abcdefg", 0, 8, "abcdefg"},
		{"abcdefg", 0, math.MaxInt, "abcdefg"},
		// Something is sure.
		{"abcdefg", 3, math.MinInt, "abc"},
		{"abcdefg", 3, -3, "abc"},
		{"abcdefg", 3, -1, "abc"},
		{"abcdefg", 3, 0, "abc"},
		{"abcdefg", 3, 1, "abcd"},
		{"abcdefg", 3, 2, "abcde"},
		{"abcdefg", 3, 3, "abcdef"},
		{"abcdefg", 3, 4, "abcdefg"},
		{"abcdefg", 3, 5, "abcdefg"},
		{"abcdefg", 3, 7, "abcdefg"},
		{"abcdefg", 3, math.MaxInt, "abcdefg"},
		{"abcdefg", 6, 0, "abcdef"},
		{"abcdefg", 6, 1, "abcdefg"},
		// All is sure.
		{"abcdefg", 7, math.MinInt, "abcdefg"},
		{"abcdefg", 7, -1, "abcdefg"},
		{"abcdefg", 7, 0, "abcdefg"},
		{"abcdefg", 7, 1, "abcdefg"},
		{"abcdefg", 7, 7, "abcdefg"},
		{"abcdefg", 7, math.MaxInt, "abcdefg"},
	} {
		f := checkFileCrash(t, fileOf(c.have, c.sure), c.keep)
		if string(f.Bytes) != c.want || f.Sure != len(c.want) {
			t.Errorf("FileCrash({%q, %d}, %d) = %s", c.have, c.sure, c.keep, fileText(f))
		}
	}
}

func TestFileCrashOfWrongFiles(t *testing.T) {
	for name, f := range wrongFiles() {
		for _, keep := range keepsAround(f) {
			if got := checkFileCrash(t, f, keep); !sameFile(got, f) {
				t.Errorf("%s, keep %d: %s", name, keep, fileText(got))
			}
		}
	}
}

// Each short file, right or not, by each call with each short argument.
func TestEveryShortFile(t *testing.T) {
	const letters = "abcdef"
	for length := range len(letters) + 1 {
		for sure := -3; sure <= length+3; sure++ {
			f := fileOf(letters[:length], sure)
			if checkFile(t, f) != (0 <= sure && sure <= length) {
				t.Error(fileText(f))
			}
			checkFileSync(t, f)
			for more := range len(letters) + 1 {
				checkFileAdd(t, f, []byte(letters[more:]))
			}
			for keep := -length - 3; keep <= length+3; keep++ {
				checkFileCrash(t, f, keep)
			}
		}
	}
}

// A crash right behind a sync takes nothing, whatever keep is.
func TestBehindASyncACrashTakesNothing(t *testing.T) {
	for name, f := range rightFiles() {
		synced := checkFileSync(t, f)
		for _, keep := range slices.Concat(keepsAround(f), keepsAround(synced)) {
			got := checkFileCrash(t, synced, keep)
			if !bytes.Equal(got.Bytes, f.Bytes) || got.Sure != len(f.Bytes) {
				t.Errorf("%s, keep %d: %s", name, keep, fileText(got))
			}
		}
	}
}

// What is sure is left by every crash, what is left is a beginning of the file and sure, and a second crash takes nothing more.
func TestAheadOfASyncABeginningStays(t *testing.T) {
	for name, f := range rightFiles() {
		for _, keep := range keepsAround(f) {
			got := checkFileCrash(t, f, keep)
			if !checkFile(t, got) || got.Sure != len(got.Bytes) {
				t.Errorf("%s, keep %d: not sure: %s", name, keep, fileText(got))
			}
			if !bytes.HasPrefix(got.Bytes, f.Bytes[:f.Sure]) || !bytes.HasPrefix(f.Bytes, got.Bytes) {
				t.Errorf("%s, keep %d: no beginning: %s", name, keep, fileText(got))
			}
			if again := checkFileCrash(t, got, 0); !sameFile(again, got) {
				t.Errorf("%s, keep %d: a second crash: %s", name, keep, fileText(again))
			}
		}
	}
}

// What was added behind a sync is all that a crash may take, up to what is kept of it.
func TestCrashTakesOnlyWhatWasAdded(t *testing.T) {
	for name, f := range rightFiles() {
		synced := checkFileSync(t, f)
		added, ok := checkFileAdd(t, synced, []byte("wxyz"))
		if !ok {
			continue
		}
		for keep := -2; keep <= 7; keep++ {
			left := []byte("wxyz")[:min(max(keep, 0), 4)]
			want := slices.Concat(f.Bytes, left)
			if got := checkFileCrash(t, added, keep); !bytes.Equal(got.Bytes, want) || got.Sure != len(want) {
				t.Errorf("%s, keep %d: %s", name, keep, fileText(got))
			}
		}
	}
}

// A fileWalker knows what is sure and what is not as two texts of its own.
type fileWalker struct {
	chance      *rand.Rand
	file        impl.File
	sure, loose []byte
	seen        map[string]int
}

func (w *fileWalker) someKeep() int {
	if w.chance.Intn(8) == 0 {
		return []int{math.MinInt, -1, 0, mostFile, math.MaxInt}[w.chance.Intn(5)]
	}
	return w.chance.Intn(len(w.loose) + 3)
}

func (w *fileWalker) add(t *testing.T, length int) string {
	t.Helper()
	b := make([]byte, length)
	w.chance.Read(b)
	ok := false
	w.file, ok = checkFileAdd(t, w.file, b)
	if ok {
		w.loose = slices.Concat(w.loose, b)
	}
	return fmt.Sprint("add ", ok)
}

func (w *fileWalker) crash(t *testing.T) string {
	t.Helper()
	keep := w.someKeep()
	left := min(max(keep, 0), len(w.loose))
	what := fmt.Sprintf("crash all=%v none=%v", left == len(w.loose), left == 0)
	w.file = checkFileCrash(t, w.file, keep)
	w.sure, w.loose = slices.Concat(w.sure, w.loose[:left]), nil
	return what
}

func (w *fileWalker) step(t *testing.T, longest int) {
	t.Helper()
	what := "sync"
	switch n := w.chance.Intn(10); {
	case n < 5:
		what = w.add(t, w.chance.Intn(longest+1))
	case n < 7:
		w.file = checkFileSync(t, w.file)
		w.sure, w.loose = slices.Concat(w.sure, w.loose), nil
	default:
		what = w.crash(t)
	}
	w.seen[what]++
	want := impl.File{Bytes: slices.Concat(w.sure, w.loose), Sure: len(w.sure)}
	if !sameFile(w.file, want) || !impl.FileOk(w.file) {
		t.Fatalf("%s: %s, not %s", what, fileText(w.file), fileText(want))
	}
}

func TestFilesMovedByAnyCalls(t *testing.T) {
	seen := map[string]int{}
	for seed := range 24 {
		w := &fileWalker{chance: rand.New(rand.NewSource(int64(seed))), seen: seen}
		steps, longest := 200, 12
		if seed%6 == 5 { // near MaxFile
			w.file = longFile(mostFile-300, mostFile-300)
			w.sure = slices.Clone(w.file.Bytes)
			steps, longest = 60, 90
		}
		for range steps {
			w.step(t, longest)
		}
	}
	wanted := []string{"add true", "add false", "sync", "crash all=true none=true", "crash all=true none=false", "crash all=false none=true", "crash all=false none=false"}
	for _, s := range wanted {
		if seen[s] < 20 {
			t.Errorf("hardly ever seen: %s: %d", s, seen[s])
		}
	}
	if len(seen) != len(wanted) {
		t.Error("answers that are none of a call's:", seen)
	}
}

// What was answered stays, whatever happens to what was handed in, and to another answer.
func TestFilesStayApart(t *testing.T) {
	for name, call := range map[string]func(impl.File) impl.File{
		"add":          func(f impl.File) impl.File { f, _ = impl.FileAdd(f, []byte("xy")); return f },
		"add nothing":  func(f impl.File) impl.File { f, _ = impl.FileAdd(f, nil); return f },
		"add too much": func(f impl.File) impl.File { f, _ = impl.FileAdd(f, make([]byte, mostFile)); return f },
		"add to none":  func(f impl.File) impl.File { f, _ = impl.FileAdd(impl.File{Bytes: f.Bytes[:0]}, f.Bytes); return f },
		"add to wrong": func(f impl.File) impl.File {
			f, _ = impl.FileAdd(impl.File{Bytes: f.Bytes, Sure: 99}, []byte("xy"))
			return f
		},
		"sync":             impl.FileSync,
		"sync all sure":    func(f impl.File) impl.File { return impl.FileSync(impl.File{Bytes: f.Bytes, Sure: len(f.Bytes)}) },
		"sync wrong":       func(f impl.File) impl.File { return impl.FileSync(impl.File{Bytes: f.Bytes, Sure: -1}) },
		"crash":            func(f impl.File) impl.File { return impl.FileCrash(f, 2) },
		"crash, keep all":  func(f impl.File) impl.File { return impl.FileCrash(f, 99) },
		"crash, keep none": func(f impl.File) impl.File { return impl.FileCrash(f, 0) },
		"crash all sure":   func(f impl.File) impl.File { return impl.FileCrash(impl.File{Bytes: f.Bytes, Sure: len(f.Bytes)}, 0) },
		"crash wrong":      func(f impl.File) impl.File { return impl.FileCrash(impl.File{Bytes: f.Bytes, Sure: 99}, 0) },
	} {
		given := impl.File{Bytes: roomy([]byte("abcdefg"), []byte("spare")), Sure: 3}
		first := call(given)
		kept := cloneFile(first)
		second := call(given)
		if !sameFile(second, kept) {
			t.Error("called twice:", name, fileText(second))
		}
		scribbleBytes(second.Bytes)
		if !sameFile(first, kept) {
			t.Error("two answers share memory:", name)
		}
		scribbleBytes(given.Bytes)
		if !sameFile(first, kept) {
			t.Error("changed with what was handed in:", name)
		}
	}
}

// Two files that go on from one do not write into each other's bytes.
func TestFilesGoOnApart(t *testing.T) {
	start, _ := impl.FileAdd(impl.File{}, []byte("abc"))
	one, _ := impl.FileAdd(start, []byte("one"))
	two, _ := impl.FileAdd(start, []byte("other"))
	torn := impl.FileCrash(one, 4)
	on, _ := impl.FileAdd(torn, []byte("new"))
	for want, f := range map[string]impl.File{"abc": start, "abcone": one, "abcother": two, "abco": torn, "abconew": on} {
		if string(f.Bytes) != want {
			t.Errorf("%q, not %q", f.Bytes, want)
		}
	}
}
